package mgr_test

import (
	"fmt"
	"maps"
	"math/rand"
	"slices"
	"sort"
	"strings"
	"testing"

	"farrier/api"
	"farrier/graph"
	"farrier/mgr"
	"farrier/proc"
	"farrier/tree"
	"farrier/unit"
	"farrier/vol"
)

// hold is what Hold would tell of a path now.
type hold func(p string) (int, api.Errno)

// model is what a manager and its table should be, by the chapters' words.
type model struct {
	units map[string]unit.Unit
	state map[string]int
	pid   map[string]int
	has   map[string][]string
	tries map[string]int
	said  []mgr.Event
	last  int
	procs map[int]proc.Proc
}

func newModel() *model {
	x := &model{}
	x.lose()
	return x
}

func (x *model) lose() {
	x.state, x.pid, x.has, x.tries = map[string]int{}, map[string]int{}, map[string][]string{}, map[string]int{}
	x.said, x.procs = nil, map[int]proc.Proc{}
}

func (x *model) set(units []unit.Unit) {
	x.units = map[string]unit.Unit{}
	for _, u := range units {
		x.units[u.Name] = u
	}
}

// happens writes down that a unit is in a state, by what happened.
func (x *model) happens(n string, state, kind int) {
	x.state[n] = state
	x.said = append(x.said, mgr.Event{Kind: kind, Unit: n})
}

func (x *model) end(n string) {
	delete(x.procs, x.pid[n])
	delete(x.pid, n)
	delete(x.has, n)
}

func (x *model) requiredRun(u unit.Unit) bool {
	for _, n := range u.Requires {
		if x.state[n] != mgr.On {
			return false
		}
	}
	return true
}

// spawn lets something run for a unit, or tells why it can't.
func (x *model) spawn(u unit.Unit, h hold) api.Errno {
	if len(u.Files) > 8 {
		return api.ErrMany
	}
	if len(x.procs) == 32 {
		return api.ErrFull
	}
	var files []int
	for _, p := range u.Files {
		i, e := h(p)
		if e != api.OK {
			return e
		}
		files = append(files, i)
	}
	x.last++
	x.pid[u.Name] = x.last
	x.has[u.Name] = slices.Clone(u.Files)
	x.procs[x.last] = proc.Proc{Pid: x.last, Unit: u.Name, Maps: files}
	return api.OK
}

func (x *model) start(n string, h hold) api.Errno {
	u, ok := x.units[n]
	if !ok {
		return api.ErrNone
	}
	if s := x.state[n]; s == mgr.Starting || s == mgr.On || s == mgr.Stopping {
		return api.ErrState
	}
	if !x.requiredRun(u) {
		return api.ErrNeeds
	}
	e := x.spawn(u, h)
	if e != api.OK {
		x.happens(n, mgr.Failed, mgr.Broke)
		return e
	}
	x.tries[n] = 0
	x.happens(n, mgr.Starting, mgr.Issued)
	return api.OK
}

func (x *model) ready(n string) api.Errno {
	if x.state[n] != mgr.Starting {
		return api.ErrState
	}
	x.happens(n, mgr.On, mgr.Started)
	return api.OK
}

func (x *model) stop(n string) api.Errno {
	s := x.state[n]
	if s == mgr.Starting || s == mgr.On {
		p := x.procs[x.pid[n]]
		p.Ending = true
		x.procs[x.pid[n]] = p
		x.happens(n, mgr.Stopping, mgr.Asked)
		return api.OK
	}
	if s == mgr.Failed {
		x.happens(n, mgr.Off, mgr.Stopped)
		return api.OK
	}
	return api.ErrState
}

func (x *model) fail(n string, h hold) api.Errno {
	if x.pid[n] == 0 {
		return api.ErrState
	}
	x.end(n)
	if x.state[n] == mgr.Stopping {
		x.happens(n, mgr.Off, mgr.Stopped)
		return api.OK
	}
	u, ok := x.units[n]
	if x.state[n] == mgr.Starting && ok && x.tries[n] < u.Retry && x.requiredRun(u) && x.spawn(u, h) == api.OK {
		x.tries[n]++
		x.happens(n, mgr.Starting, mgr.Issued)
		return api.OK
	}
	x.happens(n, mgr.Failed, mgr.Broke)
	return api.OK
}

func (x *model) pick(pid int) api.Errno {
	p, ok := x.procs[pid]
	if !ok {
		return api.ErrNone
	}
	if p.Ending {
		x.end(p.Unit)
		x.happens(p.Unit, mgr.Off, mgr.Stopped)
	}
	return api.OK
}

func (x *model) in(states ...int) []string {
	var list []string
	for n, s := range x.state {
		for _, asked := range states {
			if s == asked && s != mgr.Off {
				list = append(list, n)
				break
			}
		}
	}
	sort.Strings(list)
	return list
}

// same holds all that a manager tells, but its events, against the model.
func (x *model) same(t *testing.T, what string, m *mgr.Mgr, names []string) {
	t.Helper()
	for _, n := range names {
		if m.State(n) != x.state[n] || m.Pid(n) != x.pid[n] || !slices.Equal(m.Has(n), x.has[n]) {
			t.Fatalf("%s: %q is %d, %d, %q, not %d, %d, %q", what, n, m.State(n), m.Pid(n), m.Has(n), x.state[n], x.pid[n], x.has[n])
		}
	}
	for bits := range 32 {
		var some []int
		for s := range 5 {
			if bits>>s&1 == 1 {
				some = append(some, s)
			}
		}
		if got := m.In(some...); !slices.Equal(got, x.in(some...)) {
			t.Fatalf("%s: In(%v) tells %q, not %q", what, some, got, x.in(some...))
		}
	}
	pids := slices.Sorted(maps.Keys(x.procs))
	if !slices.Equal(m.List(), pids) {
		t.Fatalf("%s: %v run, not %v", what, m.List(), pids)
	}
	for _, pid := range pids {
		want := x.procs[pid]
		got, ok := m.Get(pid)
		if !ok || got.Pid != want.Pid || got.Unit != want.Unit || got.Ending != want.Ending || !slices.Equal(got.Maps, want.Maps) {
			t.Fatalf("%s: %v runs, not %v", what, got, want)
		}
	}
}

// happened holds what has happened since the last time against the model.
func (x *model) happened(t *testing.T, what string, m *mgr.Mgr) {
	t.Helper()
	if got := m.Events(); !slices.Equal(got, x.said) {
		t.Fatalf("%s: %v has happened, not %v", what, got, x.said)
	}
	x.said = nil
}

// held is how often something that runs has each file.
func (x *model) held() map[int]int {
	n := map[int]int{}
	for _, p := range x.procs {
		for _, i := range p.Maps {
			n[i]++
		}
	}
	return n
}

// Of two units, one of which requires the other one, whose start is tried again once, all orders of five calls.
func TestAllShortOrdersOfCalls(t *testing.T) {
	units := []unit.Unit{needy("a", "/a", "b"), {Name: "b", Files: []string{"/b"}, Retry: 1}}
	g := of(t, units...)
	// Each of five calls, of each of the two, is a digit of an order.
	const calls, long = 10, 5
	for order := range calls * calls * calls * calls * calls {
		s := shelve("/a", "/b")
		m, x := mgr.New(proc.New(s)), newModel()
		m.Set(g)
		x.set(units)
		h := func(p string) (int, api.Errno) { return s.ids[p], api.OK }
		what := ""
		for k, rest := 0, order; k < long; k, rest = k+1, rest/calls {
			n := units[rest%calls%2].Name
			one(t, &what, m, x, rest%calls/2, n, m.Pid(n), h)
			for _, n := range []string{"a", "b"} {
				if m.State(n) != x.state[n] || m.Pid(n) != x.pid[n] {
					t.Fatalf("%s: %q is %d, %d, not %d, %d", what, n, m.State(n), m.Pid(n), x.state[n], x.pid[n])
				}
			}
		}
		x.same(t, what, m, []string{"a", "b"})
		x.happened(t, what, m)
		if want := x.held(); s.held[2] != want[2] || s.held[3] != want[3] {
			t.Fatalf("%s: files are held %v, not %v", what, s.held, want)
		}
	}
}

// one does one of five calls with a manager and the model, and holds what they tell against each other.
func one(t *testing.T, what *string, m *mgr.Mgr, x *model, call int, n string, pid int, h hold) {
	t.Helper()
	var got, want api.Errno
	switch call {
	case 0:
		*what += fmt.Sprintf(" start %q", n)
		got, want = m.Start(n), x.start(n, h)
	case 1:
		*what += fmt.Sprintf(" ready %q", n)
		got, want = m.Ready(n), x.ready(n)
	case 2:
		*what += fmt.Sprintf(" stop %q", n)
		got, want = m.Stop(n), x.stop(n)
	case 3:
		*what += fmt.Sprintf(" fail %q", n)
		got, want = m.Fail(n), x.fail(n, h)
	default:
		*what += fmt.Sprintf(" pick %d", pid)
		got, want = m.Pick(pid), x.pick(pid)
	}
	if got != want {
		t.Fatalf("%s tells %d, not %d", *what, got, want)
	}
	*what += fmt.Sprint(" ", got)
}

// some are random units of some names, each of which requires some of those ahead of it.
func some(r *rand.Rand, names, paths []string) []unit.Unit {
	var units []unit.Unit
	for _, i := range r.Perm(len(names)) {
		if len(units) == 16 || r.Intn(5) == 0 {
			continue
		}
		n := names[i]
		u := unit.Unit{Name: n, Retry: []int{-1, 0, 1, 2, 3, 7}[r.Intn(6)]}
		for range r.Intn(4) {
			u.Files = append(u.Files, paths[r.Intn(len(paths))])
		}
		if r.Intn(40) == 0 {
			u.Files = slices.Repeat(paths[:1], 9)
		}
		for _, o := range units {
			if r.Intn(3*len(units)) < 2 {
				u.Requires = append(u.Requires, o.Name)
			}
		}
		u.Wants = append(u.Wants, names[r.Intn(len(names))])
		units = append(units, u)
	}
	return units
}

// random is a manager, what it should be, and a volume that is turned meanwhile.
type random struct {
	r            *rand.Rand
	v            *vol.Vol
	m            *mgr.Mgr
	x            *model
	names, paths []string
	crowd        bool           // as many run as may
	told         map[string]int // how often each error was told by each call
}

func (w *random) hold(p string) (int, api.Errno) {
	i, ok := w.v.Find(p)
	if !ok {
		return 0, api.ErrNone
	}
	if w.v.Dir(p) {
		return 0, api.ErrDir
	}
	return i, api.OK
}

// turnFiles lets a file be another one, or go, or come.
func (w *random) turnFiles(t *testing.T) string {
	p := w.paths[w.r.Intn(len(w.paths))]
	_, there := w.v.Find(p)
	switch {
	case p == "/d" || p == "/none":
		return "nothing with " + p
	case !there:
		turn(t, w.v, tree.Op{Kind: tree.Create, Path: p})
		return "create " + p
	case w.r.Intn(3) == 0:
		turn(t, w.v, unlink(p))
		return "unlink " + p
	}
	replace(t, w.v, p)
	return "replace " + p
}

// set lets there be other units.
func (w *random) set(t *testing.T) string {
	units := some(w.r, w.names, w.paths)
	w.m.Set(of(t, units...))
	w.x.set(units)
	return fmt.Sprintf("set %q", fmt.Sprint(units))
}

// step does something: what it was.
func (w *random) step(t *testing.T) string {
	t.Helper()
	what := ""
	switch k := w.r.Intn(100); {
	case k < 3:
		return w.set(t)
	case k < 10:
		return w.turnFiles(t)
	case k < 20:
		w.x.happened(t, "Events", w.m)
		return "events"
	case k < 21 && !w.crowd:
		w.v = volume(t, "/a", "/b", "/c")
		turn(t, w.v, tree.Op{Kind: tree.Mkdir, Path: "/d"})
		w.m.Lose(w.v)
		w.x.lose()
		return "lose"
	}
	// Starts, and what brings units on, come more often, so that much runs.
	call := []int{0, 0, 0, 1, 1, 2, 3, 4}[w.r.Intn(8)]
	if w.crowd && call > 1 && w.r.Intn(10) > 0 {
		call = 0
	}
	pid := w.r.Intn(w.x.last+3) - 1
	if list := w.m.List(); len(list) > 0 && w.r.Intn(4) > 0 {
		pid = list[w.r.Intn(len(list))]
	}
	one(t, &what, w.m, w.x, call, w.names[w.r.Intn(len(w.names))], pid, w.hold)
	words := strings.Fields(what)
	w.told[words[0]+" "+words[len(words)-1]]++
	return what
}

// loose are the files that should be loose: those that are held, and stand nowhere.
func (w *random) loose() []int {
	stands := map[int]bool{}
	for _, p := range w.paths {
		if i, ok := w.v.Find(p); ok {
			stands[i] = true
		}
	}
	var list []int
	for i := range w.x.held() {
		if !stands[i] {
			list = append(list, i)
		}
	}
	sort.Ints(list)
	return list
}

// newRandom is a manager of no units over a volume with files, and a directory; a crowd has more units than may run, and files that are there nearly always.
func newRandom(t *testing.T, seed int, crowd bool, told map[string]int) *random {
	t.Helper()
	v := volume(t, "/a", "/b", "/c")
	turn(t, v, tree.Op{Kind: tree.Mkdir, Path: "/d"})
	w := &random{
		r: rand.New(rand.NewSource(int64(seed))), v: v, m: mgr.New(proc.New(v)), x: newModel(),
		names: []string{"", "b", "c", "a", "d.", "e\x00", "\xff"},
		paths: []string{"/a", "/b", "/c", "/a", "/b", "/c", "/d", "/none"},
		crowd: crowd, told: told,
	}
	if crowd {
		w.paths = []string{"/a", "/b"}
		for i := range 30 {
			w.names = append(w.names, fmt.Sprint("n", i))
		}
	}
	return w
}

func TestRandomOrdersOfCalls(t *testing.T) {
	kinds, told := map[int]int{}, map[string]int{}
	for seed := range 120 {
		crowd := seed%6 == 0
		w := newRandom(t, seed, crowd, told)
		steps := 300
		if crowd {
			steps = 1000
		}
		for n := range steps {
			what := fmt.Sprintf("seed %d, step %d: %s", seed, n, w.step(t))
			for _, e := range w.x.said {
				kinds[e.Kind]++
			}
			w.x.same(t, what, w.m, append(w.names, "x"))
			held(t, what, w.v, w.x.held())
			if got := w.v.Loose(); !slices.Equal(got, w.loose()) {
				t.Fatalf("%s: %v are loose, not %v", what, got, w.loose())
			}
		}
		w.x.happened(t, "at last", w.m)
	}
	if len(kinds) != 5 {
		t.Errorf("only these have happened: %v", kinds)
	}
	for _, c := range []string{"start 0", "start 7", "start 8", "start 10", "start 16", "start 20", "start 22", "ready 0", "ready 20", "stop 0", "stop 20", "fail 0", "fail 20", "pick 0", "pick 8"} {
		if told[c] == 0 {
			t.Errorf("nothing tells %s, but only %v", c, told)
		}
	}
}

// issues are the units whose start was issued since the last time.
func issues(m *mgr.Mgr) []string {
	var list []string
	for _, e := range m.Events() {
		if e.Kind == mgr.Issued {
			list = append(list, e.Unit)
		}
	}
	return list
}

// No unit's start is issued but while all that it requires run, whatever is done: each start that is told is held against the states that are told then.
func TestStartsAreIssuedButWhileAllThatTheyRequireRun(t *testing.T) {
	count := 0
	for seed := range 200 {
		r := rand.New(rand.NewSource(int64(seed)))
		names := []string{"a", "b", "c", "d", "e"}
		s := shelve("/a", "/b")
		m := mgr.New(proc.New(s))
		for range 500 {
			n := names[r.Intn(len(names))]
			switch k := r.Intn(20); {
			case k == 0:
				m.Set(of(t, some(r, names, []string{"/a", "/b", "/a", "/b", "/none"})...))
			case k < 9:
				m.Start(n)
			case k < 14:
				m.Ready(n)
			case k < 15:
				m.Stop(n)
			case k < 18:
				m.Fail(n)
			default:
				m.Pick(m.Pid(n))
			}
			for _, i := range issues(m) {
				count++
				run(t, m, m.Graph(), i)
			}
		}
	}
	if count < 1000 {
		t.Errorf("only %d starts were issued", count)
	}
}

// run holds all that a unit requires against being on, and having something that runs.
func run(t *testing.T, m *mgr.Mgr, g *graph.Graph, n string) {
	t.Helper()
	u, ok := g.Get(n)
	if !ok {
		t.Errorf("%q is started, and isn't there", n)
	}
	for _, o := range u.Requires {
		p, runs := m.Get(m.Pid(o))
		if m.State(o) != mgr.On || !runs || p.Unit != o || p.Ending {
			t.Errorf("%q is started, while %q, that it requires, is %d", n, o, m.State(o))
		}
	}
}

// The same calls are answered alike, each time.
func TestTheSameCallsAreAnsweredAlike(t *testing.T) {
	told := func() string {
		r := rand.New(rand.NewSource(7))
		s := shelve("/a", "/b")
		m := mgr.New(proc.New(s))
		names := []string{"a", "b", "c", "d", "e", "f", "g", "h"}
		all := ""
		for range 400 {
			n := names[r.Intn(len(names))]
			switch r.Intn(8) {
			case 0:
				m.Set(of(t, some(r, names, []string{"/a", "/b"})...))
			case 1, 2:
				all += fmt.Sprint(m.Start(n))
			case 3, 4:
				all += fmt.Sprint(m.Ready(n))
			case 5:
				all += fmt.Sprint(m.Stop(n))
			case 6:
				all += fmt.Sprint(m.Fail(n))
			default:
				all += fmt.Sprint(m.Pick(m.Pid(n)))
			}
			all += fmt.Sprint(m.In(1, 2, 3, 4), m.Has(n), m.State(n), m.List())
		}
		return all + fmt.Sprint(m.Events())
	}
	first := told()
	for range 10 {
		if told() != first {
			t.Fatal("the same calls are answered otherwise")
		}
	}
}
