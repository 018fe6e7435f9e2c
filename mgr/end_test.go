package mgr_test

import (
	"math"
	"slices"
	"testing"

	"farrier/api"
	"farrier/mgr"
	"farrier/proc"
	"farrier/tree"
	"farrier/unit"
)

// retried is a unit with a file whose start is tried again so often.
func retried(n, file string, retry int, requires ...string) unit.Unit {
	return unit.Unit{Name: n, Files: []string{file}, Retry: retry, Requires: requires}
}

func TestFailInEachState(t *testing.T) {
	for s := range 5 {
		for _, retry := range []int{-1, 0, 3} {
			v := volume(t, "/a")
			m := over(t, v, retried("u", "/a", retry))
			bring(t, m, "u", s)
			what := "Fail of one that is " + states[s]
			if s == mgr.Off || s == mgr.Failed {
				told(t, what, m.Fail("u"), api.ErrState)
				stands(t, what, m, "u", s, 0)
				happened(t, what, m)
				continue
			}
			told(t, what, m.Fail("u"), api.OK)
			switch {
			case s == mgr.Stopping:
				stands(t, what, m, "u", mgr.Off, 0)
				happened(t, what, m, stopped("u"))
			case s == mgr.Starting && retry > 0:
				stands(t, what, m, "u", mgr.Starting, 2, "/a")
				happened(t, what, m, issued("u"))
				runs(t, what, m, 2)
				held(t, what, v, map[int]int{2: 1})
				continue
			default:
				stands(t, what, m, "u", mgr.Failed, 0)
				happened(t, what, m, broke("u"))
			}
			runs(t, what, m)
			held(t, what, v, nil)
			told(t, what+", again", m.Fail("u"), api.ErrState)
			happened(t, what+", again", m)
		}
	}
	m := over(t, volume(t, "/a"), plain("u", "/a"))
	told(t, "Fail of a unit that there never was", m.Fail("x"), api.ErrState)
	stands(t, "Fail of a unit that there never was", m, "x", mgr.Off, 0)
}

// One that is starting and asked to stop stops, as often as it could be tried again.
func TestFailOfOneThatWasStartingAndIsStopping(t *testing.T) {
	m := over(t, volume(t, "/a"), retried("u", "/a", 3))
	bring(t, m, "u", mgr.Starting)
	told(t, "Stop", m.Stop("u"), api.OK)
	told(t, "Fail", m.Fail("u"), api.OK)
	stands(t, "Fail", m, "u", mgr.Off, 0)
	happened(t, "Fail", m, asked("u"), stopped("u"))
	runs(t, "Fail", m)
}

func TestAStartIsTriedAgainAsOftenAsTheUnitSays(t *testing.T) {
	for _, retry := range []int{math.MinInt, -1, 0, 1, 2, 3, 4, 20} {
		m := over(t, volume(t, "/a"), retried("u", "/a", retry))
		pid := 0
		// Each new start is tried again as often as the first one.
		for range 3 {
			told(t, "Start", m.Start("u"), api.OK)
			pid++
			happened(t, "Start", m, issued("u"))
			for range max(retry, 0) {
				told(t, "Fail with tries left", m.Fail("u"), api.OK)
				pid++
				stands(t, "Fail with tries left", m, "u", mgr.Starting, pid, "/a")
				happened(t, "Fail with tries left", m, issued("u"))
			}
			told(t, "Fail with none left", m.Fail("u"), api.OK)
			stands(t, "Fail with none left", m, "u", mgr.Failed, 0)
			happened(t, "Fail with none left", m, broke("u"))
		}
	}
}

func TestTriesAreCountedAnewByANewStart(t *testing.T) {
	m := over(t, volume(t, "/a"), retried("u", "/a", 1))
	again := func(what string) {
		t.Helper()
		told(t, what+": Start", m.Start("u"), api.OK)
		told(t, what+": Fail", m.Fail("u"), api.OK)
		happened(t, what, m, issued("u"), issued("u"))
		if m.State("u") != mgr.Starting {
			t.Errorf("%s: %s", what, states[m.State("u")])
		}
	}
	again("the first start")
	told(t, "Stop", m.Stop("u"), api.OK)
	told(t, "Pick", m.Pick(m.Pid("u")), api.OK)
	m.Events()
	again("behind Pick")
	told(t, "Stop", m.Stop("u"), api.OK)
	told(t, "Fail", m.Fail("u"), api.OK)
	m.Events()
	again("behind Fail of one that is stopping")
	told(t, "Fail", m.Fail("u"), api.OK)
	m.Events()
	again("behind Fail with no tries left")
	told(t, "Ready", m.Ready("u"), api.OK)
	told(t, "Fail", m.Fail("u"), api.OK)
	m.Events()
	again("behind Fail of one that was on")
	told(t, "Fail", m.Fail("u"), api.OK)
	told(t, "Stop", m.Stop("u"), api.OK)
	m.Events()
	again("behind Stop of a failed one")
	m.Lose(volume(t, "/a"))
	again("behind Lose")
}

// Ready doesn't give tries back to the start that came to run: what was on isn't tried again.
func TestWhatWasOnIsNotTriedAgain(t *testing.T) {
	for tries := range 3 {
		m := over(t, volume(t, "/a"), retried("u", "/a", 3))
		told(t, "Start", m.Start("u"), api.OK)
		for range tries {
			told(t, "Fail", m.Fail("u"), api.OK)
		}
		told(t, "Ready", m.Ready("u"), api.OK)
		m.Events()
		told(t, "Fail of one that is on", m.Fail("u"), api.OK)
		stands(t, "Fail of one that is on", m, "u", mgr.Failed, 0)
		happened(t, "Fail of one that is on", m, broke("u"))
	}
}

func TestRetryIsThatOfTheUnitAsItIsNow(t *testing.T) {
	for _, c := range []struct {
		ahead, tries, behind int
		again                bool
	}{{0, 0, 1, true}, {1, 1, 2, true}, {1, 1, 1, false}, {3, 2, 2, false}, {3, 2, 1, false}, {3, 2, 3, true}, {2, 0, 0, false}, {2, 1, 0, false}, {2, 2, 5, true}} {
		m := over(t, volume(t, "/a", "/b"), retried("u", "/a", c.ahead))
		told(t, "Start", m.Start("u"), api.OK)
		for range c.tries {
			told(t, "Fail", m.Fail("u"), api.OK)
		}
		m.Events()
		m.Set(of(t, retried("u", "/b", c.behind)))
		told(t, "Fail behind Set", m.Fail("u"), api.OK)
		if c.again {
			// Its files are those that it has now, too.
			stands(t, "Fail behind Set", m, "u", mgr.Starting, c.tries+2, "/b")
			happened(t, "Fail behind Set", m, issued("u"))
		} else {
			stands(t, "Fail behind Set", m, "u", mgr.Failed, 0)
			happened(t, "Fail behind Set", m, broke("u"))
		}
	}
}

func TestFailOfOneThatIsNotThereAnyMore(t *testing.T) {
	for s := range 5 {
		v := volume(t, "/a")
		m := over(t, v, retried("u", "/a", 3), plain("w", "/a"))
		bring(t, m, "u", s)
		m.Set(of(t, plain("w", "/a")))
		what := "Fail of one that was " + states[s] + ", and isn't there any more"
		if s == mgr.Off || s == mgr.Failed {
			told(t, what, m.Fail("u"), api.ErrState)
			stands(t, what, m, "u", s, 0)
			happened(t, what, m)
			continue
		}
		told(t, what, m.Fail("u"), api.OK)
		if s == mgr.Stopping {
			stands(t, what, m, "u", mgr.Off, 0)
			happened(t, what, m, stopped("u"))
		} else {
			stands(t, what, m, "u", mgr.Failed, 0)
			happened(t, what, m, broke("u"))
		}
		runs(t, what, m)
		held(t, what, v, nil)
	}
}

func TestFailWhereWhatItRequiresIsInEachState(t *testing.T) {
	for s := range 5 {
		for _, set := range []bool{false, true} {
			v := volume(t, "/a")
			m := over(t, v, retried("u", "/a", 3, "r", "q"), plain("r", "/a"), plain("q", "/a"))
			bring(t, m, "q", mgr.On)
			bring(t, m, "r", mgr.On)
			bring(t, m, "u", mgr.Starting)
			for _, call := range map[int][]func(string) api.Errno{
				mgr.Off:      {m.Stop, m.Fail},
				mgr.Starting: {m.Fail, m.Start},
				mgr.Stopping: {m.Stop},
				mgr.Failed:   {m.Fail},
			}[s] {
				told(t, "bringing r to "+states[s], call("r"), api.OK)
			}
			m.Events()
			if set {
				// What was required by the unit as it was ahead isn't asked.
				m.Set(of(t, retried("u", "/a", 3, "q"), plain("q", "/a")))
			}
			what, pid := "Fail where what it requires is "+states[s], m.Pid("u")
			told(t, what, m.Fail("u"), api.OK)
			if s == mgr.On || set {
				if m.Pid("u") <= pid {
					t.Errorf("%s: %d runs, behind %d", what, m.Pid("u"), pid)
				}
				stands(t, what, m, "u", mgr.Starting, m.Pid("u"), "/a")
				happened(t, what, m, issued("u"))
			} else {
				stands(t, what, m, "u", mgr.Failed, 0)
				happened(t, what, m, broke("u"))
			}
		}
	}
}

func TestFailWhereTheFilesOfTheNewStartCannotBeHad(t *testing.T) {
	for what, files := range map[string][]string{
		"none":                 {"/none"},
		"none behind one":      {"/a", "/none"},
		"a directory":          {"/a", "/d"},
		"too many":             slices.Repeat([]string{"/a"}, 9),
		"none, far behind":     {"/a", "/b", "/a", "/none"},
		"no path of a file":    {""},
		"the root's directory": {"/"},
	} {
		v := volume(t, "/a", "/b")
		turn(t, v, tree.Op{Kind: tree.Mkdir, Path: "/d"})
		m := over(t, v, retried("u", "/a", 3))
		bring(t, m, "u", mgr.Starting)
		u := retried("u", "/a", 3)
		u.Files = files
		m.Set(of(t, u))
		told(t, what, m.Fail("u"), api.OK)
		stands(t, what, m, "u", mgr.Failed, 0)
		happened(t, what, m, broke("u"))
		runs(t, what, m)
		held(t, what, v, nil)
		m.Set(of(t, plain("u", "/b")))
		told(t, what+", and mended", m.Start("u"), api.OK)
		stands(t, what+", and mended", m, "u", mgr.Starting, 2, "/b")
	}
}

// What ends lets its files go ahead of the new start.
func TestFailEndsWhatRanFirst(t *testing.T) {
	s := shelve("/a")
	m := over(t, s, retried("u", "/a", 1))
	bring(t, m, "u", mgr.Starting)
	told(t, "Fail", m.Fail("u"), api.OK)
	told(t, "Fail with none left", m.Fail("u"), api.OK)
	if want := []string{"hold /a", "let", "hold /a", "let"}; !slices.Equal(s.said, want) {
		t.Errorf("Fail asks for %q, not %q", s.said, want)
	}
}

func TestPick(t *testing.T) {
	for s := range 5 {
		for _, there := range []bool{true, false} {
			v := volume(t, "/a", "/b")
			m := over(t, v, plain("u", "/a", "/b"), plain("other", "/a"))
			bring(t, m, "other", mgr.Stopping)
			bring(t, m, "u", s)
			if !there {
				m.Set(of(t))
			}
			what := "Pick of what runs for one that is " + states[s]
			pid, has := m.Pid("u"), m.Has("u")
			if s == mgr.Off || s == mgr.Failed {
				told(t, what, m.Pick(2), api.ErrNone)
			} else {
				told(t, what, m.Pick(pid), api.OK)
			}
			if s == mgr.Stopping {
				stands(t, what, m, "u", mgr.Off, 0)
				happened(t, what, m, stopped("u"))
				told(t, what+", again", m.Pick(pid), api.ErrNone)
				runs(t, what, m, 1)
				held(t, what, v, map[int]int{2: 1})
			} else {
				stands(t, what, m, "u", s, pid, has...)
			}
			happened(t, what, m)
			stands(t, what, m, "other", mgr.Stopping, 1, "/a")
			for _, none := range []int{math.MinInt, -1, 0, 3, 4, math.MaxInt} {
				told(t, what+": Pick of nothing", m.Pick(none), api.ErrNone)
			}
			happened(t, what+": Pick of nothing", m)
		}
	}
}

// The unit for which it ran is the one that stopped, in whichever order they are picked.
func TestPickOfSeveral(t *testing.T) {
	v := volume(t, "/a")
	m := over(t, v, plain("a", "/a"), plain("b", "/a"), plain("c", "/a"))
	for _, n := range []string{"c", "a", "b"} {
		bring(t, m, n, mgr.Stopping)
	}
	for i, n := range []string{"b", "c", "a"} {
		told(t, "Pick of what runs for "+n, m.Pick(m.Pid(n)), api.OK)
		stands(t, "Pick", m, n, mgr.Off, 0)
		happened(t, "Pick", m, stopped(n))
		held(t, "Pick", v, map[int]int{2: 2 - i})
	}
}

// Files that are replaced, or unlinked, are held till what has them ends, however that comes; then they are gone.
func TestFilesThatAreReplacedOrUnlinkedMeanwhile(t *testing.T) {
	ends := map[string]func(m *mgr.Mgr){
		"fails": func(m *mgr.Mgr) { told(t, "Fail", m.Fail("u"), api.OK) },
		"stops": func(m *mgr.Mgr) {
			told(t, "Stop", m.Stop("u"), api.OK)
			told(t, "Pick", m.Pick(1), api.OK)
		},
		"stops, and fails": func(m *mgr.Mgr) {
			told(t, "Stop", m.Stop("u"), api.OK)
			told(t, "Fail", m.Fail("u"), api.OK)
		},
	}
	for how, end := range ends {
		v := volume(t, "/a", "/b", "/c")
		m := over(t, v, plain("u", "/a", "/b", "/a", "/c"), plain("w", "/a"))
		bring(t, m, "u", mgr.On)
		other := replace(t, v, "/a")
		turn(t, v, unlink("/b"))
		told(t, "Start of another one", m.Start("w"), api.OK)
		m.Events()
		stands(t, "it goes on", m, "u", mgr.On, 1, "/a", "/b", "/a", "/c")
		held(t, "it goes on", v, map[int]int{2: 2, 3: 1, 4: 1, other: 1})
		if got := v.Loose(); !slices.Equal(got, []int{2, 3}) {
			t.Errorf("%v are loose", got)
		}
		end(m)
		held(t, "it "+how, v, map[int]int{other: 1})
		if got := v.Loose(); len(got) != 0 {
			t.Errorf("it %s: %v are loose", how, got)
		}
		runs(t, "it "+how, m, 2)
		stands(t, "it "+how, m, "w", mgr.Starting, 2, "/a")
	}
}

func TestTheNewStartHasTheFilesThatAreThereNow(t *testing.T) {
	v := volume(t, "/a")
	m := over(t, v, retried("u", "/a", 2))
	bring(t, m, "u", mgr.Starting)
	other := replace(t, v, "/a")
	told(t, "Fail behind its file is replaced", m.Fail("u"), api.OK)
	stands(t, "Fail behind its file is replaced", m, "u", mgr.Starting, 2, "/a")
	held(t, "Fail behind its file is replaced", v, map[int]int{other: 1})
	if p, _ := m.Get(2); !slices.Equal(p.Maps, []int{other}) || len(v.Loose()) != 0 {
		t.Errorf("%v runs, %v are loose", p, v.Loose())
	}
	turn(t, v, unlink("/a"))
	told(t, "Fail behind its file is unlinked", m.Fail("u"), api.OK)
	stands(t, "Fail behind its file is unlinked", m, "u", mgr.Failed, 0)
	if len(v.Loose()) != 0 {
		t.Errorf("%v are loose", v.Loose())
	}
	happened(t, "both", m, issued("u"), broke("u"))
}

func TestEachCallOfATableButPickIsTheTables(t *testing.T) {
	v := volume(t, "/a", "/b")
	x := proc.New(v)
	m := mgr.New(x)
	var calls interface {
		Spawn(unit string, paths ...string) (int, api.Errno)
		Map(pid int, s string) api.Errno
		Unmap(pid, file int) api.Errno
		Kill(pid int) api.Errno
		Exit(pid int) api.Errno
		Get(pid int) (proc.Proc, bool)
		List() []int
		Reset(f proc.Files)
		Pick(pid int) api.Errno
	} = m
	if m.Table != x {
		t.Error("the table is another one")
	}
	check := func(what string, want ...proc.Proc) {
		t.Helper()
		var pids []int
		for _, p := range want {
			pids = append(pids, p.Pid)
			got, ok := calls.Get(p.Pid)
			there, also := x.Get(p.Pid)
			for _, g := range []proc.Proc{got, there} {
				if !ok || !also || g.Pid != p.Pid || g.Unit != p.Unit || g.Ending != p.Ending || !slices.Equal(g.Maps, p.Maps) {
					t.Errorf("%s: %v, %v, not %v", what, got, there, p)
				}
			}
		}
		if !slices.Equal(calls.List(), pids) || !slices.Equal(x.List(), pids) {
			t.Errorf("%s: %v run, and %v, not %v", what, calls.List(), x.List(), pids)
		}
	}
	if pid, e := calls.Spawn("u", "/a"); pid != 1 || e != api.OK {
		t.Errorf("Spawn tells %d, %d", pid, e)
	}
	if pid, e := x.Spawn("w"); pid != 2 || e != api.OK {
		t.Errorf("the table's Spawn tells %d, %d", pid, e)
	}
	check("Spawn", proc.Proc{Pid: 1, Unit: "u", Maps: []int{2}}, proc.Proc{Pid: 2, Unit: "w"})
	told(t, "Map", calls.Map(1, "/b"), api.OK)
	check("Map", proc.Proc{Pid: 1, Unit: "u", Maps: []int{2, 3}}, proc.Proc{Pid: 2, Unit: "w"})
	told(t, "Unmap", calls.Unmap(1, 2), api.OK)
	told(t, "Kill", calls.Kill(2), api.OK)
	check("Unmap, Kill", proc.Proc{Pid: 1, Unit: "u", Maps: []int{3}}, proc.Proc{Pid: 2, Unit: "w", Ending: true})
	told(t, "Exit", calls.Exit(2), api.OK)
	check("Exit", proc.Proc{Pid: 1, Unit: "u", Maps: []int{3}})
	w := volume(t, "/c")
	calls.Reset(w)
	check("Reset")
	if pid, e := calls.Spawn("u", "/c"); pid != 3 || e != api.OK || w.Held(2) != 1 {
		t.Errorf("Spawn behind Reset tells %d, %d", pid, e)
	}
}

// Pick is the manager's own, by which the unit is off; the table's stays within reach.
func TestPickIsTheManagersOwn(t *testing.T) {
	m := over(t, volume(t, "/a"), plain("u", "/a"))
	bring(t, m, "u", mgr.On)
	if ended, e := m.Table.Pick(1); ended || e != api.OK {
		t.Errorf("the table's Pick tells %v, %d", ended, e)
	}
	told(t, "Stop", m.Stop("u"), api.OK)
	told(t, "Pick", m.Pick(1), api.OK)
	happened(t, "Pick", m, asked("u"), stopped("u"))
	if ended, e := m.Table.Pick(1); ended || e != api.ErrNone {
		t.Errorf("the table's Pick tells %v, %d of what has ended", ended, e)
	}
}
