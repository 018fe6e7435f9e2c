package need_test

import (
	"slices"
	"testing"

	"farrier/api"
	"farrier/disk"
	"farrier/graph"
	"farrier/mgr"
	"farrier/need"
	"farrier/proc"
	"farrier/tree"
	"farrier/unit"
	"farrier/vol"
)

// states are all states of a unit, by what they are called in tests.
var states = map[int]string{mgr.Off: "off", mgr.Starting: "starting", mgr.On: "on", mgr.Stopping: "stopping", mgr.Failed: "failed"}

// volume is a volume with files at these paths, the first of which has the number 2.
func volume(t *testing.T, paths ...string) *vol.Vol {
	t.Helper()
	v, e := vol.Open(disk.New(2000), 5000)
	told(t, "the volume", e, api.OK)
	for _, p := range paths {
		turn(t, v, create(p))
	}
	return v
}

// turn turns a volume, which should go well.
func turn(t *testing.T, v *vol.Vol, ops ...tree.Op) {
	t.Helper()
	told(t, "the volume's Do", v.Do(ops...), api.OK)
}

// replace lets another file stand at a path.
func replace(t *testing.T, v *vol.Vol, p string) {
	t.Helper()
	turn(t, v, create("/new"), rename("/new", p))
}

func mkdir(p string) tree.Op      { return tree.Op{Kind: tree.Mkdir, Path: p} }
func rmdir(p string) tree.Op      { return tree.Op{Kind: tree.Rmdir, Path: p} }
func write(p string) tree.Op      { return tree.Op{Kind: tree.Write, Path: p, Data: []byte("two")} }
func link(p, to string) tree.Op   { return tree.Op{Kind: tree.Link, Path: p, To: to} }
func rename(p, to string) tree.Op { return tree.Op{Kind: tree.Rename, Path: p, To: to} }
func unlink(p string) tree.Op     { return tree.Op{Kind: tree.Unlink, Path: p} }

func create(p string, data ...string) tree.Op {
	return tree.Op{Kind: tree.Create, Path: p, Data: []byte(slices.Concat(data, []string{"x"})[0])}
}

// number is the number of what stands at a path.
func number(t *testing.T, v *vol.Vol, p string) int {
	t.Helper()
	i, ok := v.Find(p)
	if !ok {
		t.Fatalf("nothing stands at %s", p)
	}
	return i
}

// of is the graph of some units.
func of(t *testing.T, units ...unit.Unit) *graph.Graph {
	t.Helper()
	g, e, who := graph.New(units...)
	if e != api.OK {
		t.Fatalf("the graph tells %d %s", e, who)
	}
	return g
}

// plain is a unit with some files, and nothing else.
func plain(n string, files ...string) unit.Unit { return unit.Unit{Name: n, Files: files} }

// over is a manager of some units, over a table of nothing.
func over(t *testing.T, v *vol.Vol, units ...unit.Unit) *mgr.Mgr {
	t.Helper()
	m := mgr.New(proc.New(v))
	m.Set(of(t, units...))
	return m
}

// bring brings a unit that is off into a state.
func bring(t *testing.T, m *mgr.Mgr, n string, state int) {
	t.Helper()
	if state != mgr.Off {
		told(t, n+"'s start", m.Start(n), api.OK)
	}
	switch state {
	case mgr.On:
		told(t, n+"'s coming to run", m.Ready(n), api.OK)
	case mgr.Stopping:
		told(t, n+"'s stop", m.Stop(n), api.OK)
	case mgr.Failed:
		told(t, n+"'s failure", m.Fail(n), api.OK)
	}
	if got := m.State(n); got != state {
		t.Fatalf("%s is %s", n, states[got])
	}
}

func told(t *testing.T, what string, got, want api.Errno) {
	t.Helper()
	if got != want {
		t.Fatalf("%s: %d, and not %d", what, got, want)
	}
}

// hit holds just these units to run with files that are superseded.
func hit(t *testing.T, what string, v *vol.Vol, m *mgr.Mgr, want ...string) {
	t.Helper()
	if got := need.Hit(v, m); !slices.Equal(got, want) {
		t.Errorf("%s: Hit tells %q, and not %q", what, got, want)
	}
	all := m.In(mgr.Off, mgr.Starting, mgr.On, mgr.Stopping, mgr.Failed)
	for _, n := range slices.Concat(all, m.Graph().Names(), want) {
		if got := need.Of(v, m, n); got != slices.Contains(want, n) {
			t.Errorf("%s: Of tells %v of %q", what, got, n)
		}
	}
}
