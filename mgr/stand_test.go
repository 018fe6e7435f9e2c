package mgr_test

import (
	"slices"
	"testing"

	"farrier/api"
	"farrier/disk"
	"farrier/graph"
	"farrier/mgr"
	"farrier/proc"
	"farrier/tree"
	"farrier/unit"
	"farrier/vol"
)

// states are all states of a unit, by what they are called in tests.
var states = map[int]string{mgr.Off: "off", mgr.Starting: "starting", mgr.On: "on", mgr.Stopping: "stopping", mgr.Failed: "failed"}

// volume is a volume with files of one byte at these paths, the first of which has the number 2.
func volume(t *testing.T, paths ...string) *vol.Vol {
	t.Helper()
	v, e := vol.Open(disk.New(2000), 5000)
	told(t, "the volume", e, api.OK)
	for _, p := range paths {
		turn(t, v, tree.Op{Kind: tree.Create, Path: p, Data: []byte("x")})
	}
	return v
}

// turn turns a volume, which should go well.
func turn(t *testing.T, v *vol.Vol, ops ...tree.Op) {
	t.Helper()
	told(t, "the volume's Do", v.Do(ops...), api.OK)
}

// replace lets another file stand at a path: its number.
func replace(t *testing.T, v *vol.Vol, p string) int {
	t.Helper()
	turn(t, v, tree.Op{Kind: tree.Create, Path: "/new"}, tree.Op{Kind: tree.Rename, Path: "/new", To: p})
	i, _ := v.Find(p)
	return i
}

func unlink(p string) tree.Op { return tree.Op{Kind: tree.Unlink, Path: p} }

// shelf is who knows files at some paths, each of which has the number that it has here; it counts how often they are held, and writes down what it is asked for.
type shelf struct {
	ids  map[string]int
	held map[int]int
	said []string
}

func shelve(paths ...string) *shelf {
	s := &shelf{ids: map[string]int{}, held: map[int]int{}}
	for i, p := range paths {
		s.ids[p] = i + 2
	}
	return s
}

func (s *shelf) Hold(p string) (int, api.Errno) {
	s.said = append(s.said, "hold "+p)
	i, ok := s.ids[p]
	if !ok {
		return 0, api.ErrNone
	}
	s.held[i]++
	return i, api.OK
}

func (s *shelf) Let(i int) api.Errno {
	s.said = append(s.said, "let")
	if s.held[i] == 0 {
		return api.ErrNone
	}
	s.held[i]--
	return api.OK
}

// of is the graph of units.
func of(t *testing.T, units ...unit.Unit) *graph.Graph {
	t.Helper()
	g, e, n := graph.New(units...)
	if e != api.OK {
		t.Fatalf("the graph tells %d, %q", e, n)
	}
	return g
}

// plain is a unit with files, that requires nothing, and whose start isn't tried again.
func plain(n string, files ...string) unit.Unit { return unit.Unit{Name: n, Files: files} }

// over is a manager of units over a table of nothing that has such files.
func over(t *testing.T, f proc.Files, units ...unit.Unit) *mgr.Mgr {
	t.Helper()
	m := mgr.New(proc.New(f))
	m.Set(of(t, units...))
	return m
}

// bring brings a unit that is off, and all that it requires on, to a state; nothing is told of it any more.
func bring(t *testing.T, m *mgr.Mgr, n string, state int) {
	t.Helper()
	calls := map[int][]func(string) api.Errno{
		mgr.Starting: {m.Start},
		mgr.On:       {m.Start, m.Ready},
		mgr.Stopping: {m.Start, m.Ready, m.Stop},
		mgr.Failed:   {m.Start, m.Ready, m.Fail},
	}
	for _, call := range calls[state] {
		told(t, "bringing "+n+" to "+states[state], call(n), api.OK)
	}
	if m.State(n) != state {
		t.Fatalf("%s is %s, not %s", n, states[m.State(n)], states[state])
	}
	m.Events()
}

// told holds an error against the one that there should be.
func told(t *testing.T, what string, got, want api.Errno) {
	t.Helper()
	if got != want {
		t.Errorf("%s tells %d, not %d", what, got, want)
	}
}

// stands holds how it stands with a unit against how it should.
func stands(t *testing.T, what string, m *mgr.Mgr, n string, state, pid int, has ...string) {
	t.Helper()
	if got := m.State(n); got != state {
		t.Errorf("%s: %q is %s (%d), not %s", what, n, states[got], got, states[state])
	}
	if got := m.Pid(n); got != pid {
		t.Errorf("%s: %d runs for %q, not %d", what, got, n, pid)
	}
	if got := m.Has(n); !slices.Equal(got, has) {
		t.Errorf("%s: %q was started with %q, not %q", what, n, got, has)
	}
	for s := mgr.Off; s <= mgr.Failed; s++ {
		if in := slices.Contains(m.In(s), n); in != (s == state && s != mgr.Off) {
			t.Errorf("%s: that %q is among those that are %s is %v", what, n, states[s], in)
		}
	}
	if p, ok := m.Get(pid); ok != (pid > 0) || ok && p.Unit != n || p.Ending != (state == mgr.Stopping) {
		t.Errorf("%s: what runs for %q is %v, %v", what, n, p, ok)
	}
}

// happened holds what has happened since the last time against what should have, and asks once more.
func happened(t *testing.T, what string, m *mgr.Mgr, want ...mgr.Event) {
	t.Helper()
	if got := m.Events(); !slices.Equal(got, want) {
		t.Errorf("%s: %v has happened, not %v", what, got, want)
	}
	if got := m.Events(); len(got) != 0 {
		t.Errorf("%s: %v is told again", what, got)
	}
}

func issued(n string) mgr.Event  { return mgr.Event{Kind: mgr.Issued, Unit: n} }
func started(n string) mgr.Event { return mgr.Event{Kind: mgr.Started, Unit: n} }
func asked(n string) mgr.Event   { return mgr.Event{Kind: mgr.Asked, Unit: n} }
func stopped(n string) mgr.Event { return mgr.Event{Kind: mgr.Stopped, Unit: n} }
func broke(n string) mgr.Event   { return mgr.Event{Kind: mgr.Broke, Unit: n} }

// held holds how often files of a volume are held against how often they should be.
func held(t *testing.T, what string, v *vol.Vol, want map[int]int) {
	t.Helper()
	for i := range 200 {
		if v.Held(i) != want[i] {
			t.Errorf("%s: the file %d is held %d times, not %d", what, i, v.Held(i), want[i])
		}
	}
}

// runs holds the numbers of all that runs against what they should be.
func runs(t *testing.T, what string, m *mgr.Mgr, want ...int) {
	t.Helper()
	if got := m.List(); !slices.Equal(got, want) {
		t.Errorf("%s: %v run, not %v", what, got, want)
	}
}

// names holds names that are told against what they should be.
func names(t *testing.T, what string, got []string, want ...string) {
	t.Helper()
	if !slices.Equal(got, want) {
		t.Errorf("%s tells %q, not %q", what, got, want)
	}
}
