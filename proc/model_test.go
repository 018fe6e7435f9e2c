package proc_test

import (
	"maps"
	"slices"
	"testing"

	"farrier/api"
	"farrier/disk"
	"farrier/proc"
	"farrier/tree"
	"farrier/vol"
)

// count is who knows files, each at one path; it counts how often they are held, and writes down what it is asked for.
type count struct {
	ids  map[string]int
	held map[int]int
	said []string
}

// known is who knows files at these paths, by numbers from 2 on; at /dir a directory stands.
func known(paths ...string) *count {
	c := &count{ids: map[string]int{}, held: map[int]int{}}
	for i, p := range paths {
		c.ids[p] = i + 2
	}
	return c
}

func (c *count) Hold(p string) (int, api.Errno) {
	c.said = append(c.said, "hold "+p)
	i, ok := c.ids[p]
	switch {
	case p == "/dir":
		return 99, api.ErrDir
	case !ok:
		return 98, api.ErrNone
	}
	c.held[i]++
	return i, api.OK
}

func (c *count) Let(i int) api.Errno {
	for p, n := range c.ids {
		if n == i {
			c.said = append(c.said, "let "+p)
		}
	}
	if c.held[i] == 0 {
		return api.ErrNone
	}
	c.held[i]--
	return api.OK
}

// asked holds what was asked for since the last time against what should have been.
func (c *count) asked(t *testing.T, what string, want ...string) {
	t.Helper()
	if !slices.Equal(c.said, want) {
		t.Errorf("%s asks for %q, not %q", what, c.said, want)
	}
	c.said = nil
}

// all holds how often each file is held against how often it should be; one that isn't named is held no more.
func (c *count) all(t *testing.T, what string, want map[int]int) {
	t.Helper()
	for _, i := range c.ids {
		if c.held[i] != want[i] {
			t.Errorf("%s: %d is held %d times, not %d", what, i, c.held[i], want[i])
		}
	}
}

// volume is a volume with files of one byte at these paths, the first of which has the number 2.
func volume(t *testing.T, paths ...string) *vol.Vol {
	t.Helper()
	v, e := vol.Open(disk.New(2000), 5000)
	told(t, "the volume", e, api.OK)
	for _, p := range paths {
		turn(t, v, tree.Op{Kind: tree.Create, Path: p, Data: []byte("x")})
	}
	return v
}

// turn turns a volume, which should go well.
func turn(t *testing.T, v *vol.Vol, ops ...tree.Op) {
	t.Helper()
	told(t, "the volume's Do", v.Do(ops...), api.OK)
}

// replace lets another file stand at a path.
func replace(t *testing.T, v *vol.Vol, p string) {
	t.Helper()
	turn(t, v, tree.Op{Kind: tree.Create, Path: "/new"}, tree.Op{Kind: tree.Rename, Path: "/new", To: p})
}

func unlink(p string) tree.Op { return tree.Op{Kind: tree.Unlink, Path: p} }

// told holds an error against the one that there should be.
func told(t *testing.T, what string, got, want api.Errno) {
	t.Helper()
	if got != want {
		t.Errorf("%s tells %d, not %d", what, got, want)
	}
}

// spawned holds what Spawn tells against the number, and the error, that it should.
func spawned(t *testing.T, what string, want int, wantE api.Errno) func(int, api.Errno) {
	t.Helper()
	return func(pid int, e api.Errno) {
		t.Helper()
		if pid != want || e != wantE {
			t.Errorf("%s: Spawn tells %d, %d, not %d, %d", what, pid, e, want, wantE)
		}
	}
}

// picked holds what Pick tells against what it should.
func picked(t *testing.T, what string, want bool, wantE api.Errno) func(bool, api.Errno) {
	t.Helper()
	return func(ended bool, e api.Errno) {
		t.Helper()
		if ended != want || e != wantE {
			t.Errorf("%s: Pick tells %v, %d, not %v, %d", what, ended, e, want, wantE)
		}
	}
}

// runs holds all that runs in a table, and that alone, against what should.
func runs(t *testing.T, what string, x *proc.Table, want ...proc.Proc) {
	t.Helper()
	of := map[int]proc.Proc{}
	for _, p := range want {
		of[p.Pid] = p
	}
	pids := slices.Sorted(maps.Keys(of))
	if got := x.List(); !slices.Equal(got, pids) {
		t.Errorf("%s: %v run, not %v", what, got, pids)
	}
	for pid := -2; pid < 300; pid++ {
		w, there := of[pid]
		got, ok := x.Get(pid)
		if ok != there || got.Pid != w.Pid || got.Unit != w.Unit || got.Ending != w.Ending || !slices.Equal(got.Maps, w.Maps) {
			t.Errorf("%s: Get(%d) tells %v, %v, not %v, %v", what, pid, got, ok, w, there)
		}
	}
}

// model is what a table should be, by the chapter's words.
type model struct {
	last int
	runs map[int]proc.Proc
}

// spawn and mapped are told what Hold should, for each path ahead of the first error.
func (m *model) spawn(unit string, n int, ids []int, e api.Errno) (int, api.Errno) {
	switch {
	case n > 8:
		return 0, api.ErrMany
	case len(m.runs) == 32:
		return 0, api.ErrFull
	case e != api.OK:
		return 0, e
	}
	m.last++
	m.runs[m.last] = proc.Proc{Pid: m.last, Unit: unit, Maps: slices.Clone(ids)}
	return m.last, api.OK
}

func (m *model) mapped(pid int, id int, e api.Errno) api.Errno {
	p, ok := m.runs[pid]
	switch {
	case !ok:
		return api.ErrNone
	case len(p.Maps) == 8:
		return api.ErrMany
	case e != api.OK:
		return e
	}
	p.Maps = append(slices.Clone(p.Maps), id)
	m.runs[pid] = p
	return api.OK
}

func (m *model) unmap(pid, file int) api.Errno {
	p := m.runs[pid]
	at := slices.Index(p.Maps, file)
	if at < 0 {
		return api.ErrNone
	}
	p.Maps = slices.Concat(p.Maps[:at], p.Maps[at+1:])
	m.runs[pid] = p
	return api.OK
}

func (m *model) kill(pid int) api.Errno {
	p, ok := m.runs[pid]
	if !ok {
		return api.ErrNone
	}
	p.Ending = true
	m.runs[pid] = p
	return api.OK
}

func (m *model) exit(pid int) api.Errno {
	if _, ok := m.runs[pid]; !ok {
		return api.ErrNone
	}
	delete(m.runs, pid)
	return api.OK
}

func (m *model) pick(pid int) (bool, api.Errno) {
	p, ok := m.runs[pid]
	if !ok {
		return false, api.ErrNone
	}
	if p.Ending {
		m.exit(pid)
	}
	return p.Ending, api.OK
}

// held is how often something that runs has each file.
func (m *model) held() map[int]int {
	n := map[int]int{}
	for _, p := range m.runs {
		for _, i := range p.Maps {
			n[i]++
		}
	}
	return n
}
