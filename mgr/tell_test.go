package mgr_test

import (
	"fmt"
	"slices"
	"testing"

	"farrier/api"
	"farrier/graph"
	"farrier/mgr"
	"farrier/proc"
	"farrier/unit"
)

func TestPidAndHasInEachState(t *testing.T) {
	files := []string{"/b", "/a", "/b"}
	for s := range 5 {
		m := over(t, volume(t, "/a", "/b"), plain("other"), plain("u", files...))
		bring(t, m, "other", mgr.On)
		bring(t, m, "u", s)
		what := "one that is " + states[s]
		pid, has := 2, files
		if s == mgr.Off || s == mgr.Failed {
			pid, has = 0, nil
		}
		stands(t, what, m, "u", s, pid, has...)
		// Has tells with what it was started, whatever its files are now.
		m.Set(of(t, plain("u", "/a")))
		stands(t, what+", with other files from now on", m, "u", s, pid, has...)
		m.Set(of(t))
		stands(t, what+", and not there any more", m, "u", s, pid, has...)
	}
}

func TestPidAndHasBehindAnEnd(t *testing.T) {
	m := over(t, volume(t, "/a", "/b"), plain("u", "/a"))
	for i, end := range [][]func() api.Errno{
		{func() api.Errno { return m.Fail("u") }},
		{func() api.Errno { return m.Ready("u") }, func() api.Errno { return m.Fail("u") }},
		{func() api.Errno { return m.Stop("u") }, func() api.Errno { return m.Fail("u") }},
		{func() api.Errno { return m.Stop("u") }, func() api.Errno { return m.Pick(m.Pid("u")) }},
		{func() api.Errno { return m.Fail("u") }, func() api.Errno { return m.Stop("u") }},
		{func() api.Errno { m.Lose(volume(t, "/a", "/b")); return api.OK }},
	} {
		what, files := fmt.Sprint("end ", i), []string{"/a", "/b"}[:1+i%2]
		m.Set(of(t, plain("u", files...)))
		told(t, what+": Start", m.Start("u"), api.OK)
		stands(t, what, m, "u", mgr.Starting, i+1, files...)
		for _, call := range end {
			told(t, what, call(), api.OK)
		}
		if m.Pid("u") != 0 || len(m.Has("u")) != 0 || len(m.List()) != 0 {
			t.Errorf("%s: %d runs, with %q; %v run", what, m.Pid("u"), m.Has("u"), m.List())
		}
	}
}

// inEach is a manager with three units in each state, started in no order; their names are the state's, and a number.
func inEach(t *testing.T) *mgr.Mgr {
	t.Helper()
	var units []unit.Unit
	for _, k := range []string{"2", "1", "3"} {
		for s := range 5 {
			units = append(units, plain(states[s]+k, "/a"))
		}
	}
	m := over(t, volume(t, "/a"), units...)
	for i, u := range units {
		bring(t, m, u.Name, i%5)
	}
	return m
}

func TestIn(t *testing.T) {
	m := inEach(t)
	each := map[int][]string{
		mgr.Starting: {"starting1", "starting2", "starting3"},
		mgr.On:       {"on1", "on2", "on3"},
		mgr.Stopping: {"stopping1", "stopping2", "stopping3"},
		mgr.Failed:   {"failed1", "failed2", "failed3"},
	}
	names(t, "In of no state", m.In())
	names(t, "In of Off", m.In(mgr.Off))
	names(t, "In of Off twice", m.In(mgr.Off, mgr.Off))
	names(t, "In of what is no state", m.In(-1, 5, 1000))
	for s, want := range each {
		names(t, "In of "+states[s], m.In(s), want...)
		names(t, "In of "+states[s]+" twice", m.In(s, s), want...)
		names(t, "In of "+states[s]+" and Off", m.In(mgr.Off, s), want...)
		names(t, "In of "+states[s]+" and what is no state", m.In(-1, s, 77), want...)
	}
	both := []string{"failed1", "failed2", "failed3", "on1", "on2", "on3"}
	names(t, "In of two states", m.In(mgr.On, mgr.Failed), both...)
	names(t, "In of two states, the other way", m.In(mgr.Failed, mgr.On), both...)
	names(t, "In of two states, often", m.In(mgr.Failed, mgr.On, mgr.On, mgr.Off, mgr.Failed), both...)
}

func TestInTellsByteByByteInOrder(t *testing.T) {
	list := []string{"b", "", "a.b", "a-b", "ab", "B", "z", "\xff", "é", "a", "10", "9", "_"}
	var units []unit.Unit
	for _, n := range list {
		units = append(units, plain(n, "/a"))
	}
	m := over(t, volume(t, "/a"), units...)
	for i, n := range list {
		bring(t, m, n, 1+i%4)
	}
	m.Set(of(t, units[0]))
	slices.Sort(list)
	for range 20 {
		names(t, "In of all states", m.In(mgr.Failed, mgr.Stopping, mgr.On, mgr.Starting), list...)
	}
}

func TestInFollowsWhatIsDone(t *testing.T) {
	m := over(t, volume(t, "/a"), plain("u", "/a"), plain("w", "/a"))
	check := func(state int, others ...int) {
		t.Helper()
		names(t, "In of "+states[state], m.In(state), "u")
		names(t, "In of all others", m.In(others...))
	}
	told(t, "Start", m.Start("u"), api.OK)
	check(mgr.Starting, mgr.On, mgr.Stopping, mgr.Failed)
	told(t, "Ready", m.Ready("u"), api.OK)
	check(mgr.On, mgr.Starting, mgr.Stopping, mgr.Failed)
	m.Set(of(t))
	check(mgr.On, mgr.Starting, mgr.Stopping, mgr.Failed)
	told(t, "Stop", m.Stop("u"), api.OK)
	check(mgr.Stopping, mgr.On, mgr.Starting, mgr.Failed)
	told(t, "Pick", m.Pick(1), api.OK)
	names(t, "In of all states", m.In(0, 1, 2, 3, 4))
	m.Set(of(t, plain("u", "/none")))
	told(t, "Start", m.Start("u"), api.ErrNone)
	check(mgr.Failed, mgr.Stopping, mgr.On, mgr.Starting)
}

func TestEventsOfEachKindInOrder(t *testing.T) {
	m := over(t, volume(t, "/a"), plain("u", "/a"), unit.Unit{Name: "w", Files: []string{"/a"}, Retry: 1}, plain("bad", "/none"))
	told(t, "w's start", m.Start("w"), api.OK)
	told(t, "u's start", m.Start("u"), api.OK)
	told(t, "w's failure", m.Fail("w"), api.OK)
	happened(t, "three starts", m, issued("w"), issued("u"), issued("w"))
	told(t, "bad's start", m.Start("bad"), api.ErrNone)
	told(t, "w's failure", m.Fail("w"), api.OK)
	told(t, "u's coming to run", m.Ready("u"), api.OK)
	told(t, "bad's stop", m.Stop("bad"), api.OK)
	told(t, "u's stop", m.Stop("u"), api.OK)
	told(t, "u's going on", m.Pick(2), api.OK)
	happened(t, "all", m, broke("bad"), broke("w"), started("u"), stopped("bad"), asked("u"), stopped("u"))
}

func TestCallsThatAreRefusedTellNoEvents(t *testing.T) {
	m := over(t, volume(t, "/a"), needy("u", "/a", "r"), plain("r", "/a"))
	m.Start("u")
	m.Start("x")
	m.Ready("u")
	m.Stop("u")
	m.Fail("u")
	m.Pick(1)
	happened(t, "calls that are refused", m)
	told(t, "Start", m.Start("r"), api.OK)
	m.Start("r")
	m.Pick(1)
	m.Set(of(t))
	m.In(mgr.Starting)
	m.Has("r")
	happened(t, "one call, and others that do nothing", m, issued("r"))
}

func TestManyEvents(t *testing.T) {
	m := over(t, volume(t, "/a"), plain("u", "/a"))
	var want []mgr.Event
	for range 3000 {
		m.Start("u")
		m.Fail("u")
		want = append(want, issued("u"), broke("u"))
	}
	happened(t, "many", m, want...)
}

func TestWhatIsToldMayBeTurned(t *testing.T) {
	m := over(t, volume(t, "/a", "/b"), plain("u", "/a", "/b"), plain("w", "/a"))
	bring(t, m, "u", mgr.On)
	told(t, "Start", m.Start("w"), api.OK)
	told(t, "Ready", m.Ready("w"), api.OK)
	has := m.Has("u")
	has[0], has[1] = "/x", "/y"
	_ = append(has[:0], "/z")
	stands(t, "what Has told is turned", m, "u", mgr.On, 1, "/a", "/b")
	in := m.In(mgr.On)
	in[0], in[1] = "x", "y"
	names(t, "what In told is turned: In", m.In(mgr.On), "u", "w")
	events := m.Events()
	events[0] = broke("x")
	told(t, "Stop", m.Stop("w"), api.OK)
	// What was told has room for more perhaps, which isn't where later events stand.
	_ = append(events[:0], broke("x"), broke("y"), broke("z"))
	_ = append(events, broke("x"))
	later := m.Events()
	if !slices.Equal(later, []mgr.Event{asked("w")}) {
		t.Errorf("what Events told is turned: %v", later)
	}
	told(t, "Pick", m.Pick(2), api.OK)
	if !slices.Equal(later, []mgr.Event{asked("w")}) || events[0] != broke("x") {
		t.Errorf("what Events told is turned by others: %v, %v", later, events)
	}
	p, _ := m.Get(1)
	p.Maps[0] = 77
	if p, _ := m.Get(1); !slices.Equal(p.Maps, []int{2, 3}) {
		t.Errorf("what Get told is turned: %v", p)
	}
	u, _ := m.Graph().Get("u")
	u.Files[0], u.Files[1] = "/none", "/none"
	told(t, "Fail", m.Fail("u"), api.OK)
	told(t, "Start, where what the graph told is turned", m.Start("u"), api.OK)
	stands(t, "what the graph told is turned", m, "u", mgr.Starting, 3, "/a", "/b")
}

func TestWhatIsHandedInMayBeTurned(t *testing.T) {
	files, requires := []string{"/a", "/b"}, []string{"r"}
	units := []unit.Unit{{Name: "u", Files: files, Requires: requires, Retry: 1}, plain("r", "/a")}
	m := over(t, volume(t, "/a", "/b"), units...)
	bring(t, m, "r", mgr.On)
	files[0], requires[0], units[0].Retry, units[0].Name = "/none", "no", 0, "x"
	told(t, "Start", m.Start("u"), api.OK)
	stands(t, "the units are turned", m, "u", mgr.Starting, 2, "/a", "/b")
	told(t, "Fail", m.Fail("u"), api.OK)
	stands(t, "the units are turned, tried again", m, "u", mgr.Starting, 3, "/a", "/b")
	asks := []int{mgr.On, mgr.Starting, mgr.On, mgr.Off}
	got := m.In(asks...)
	if !slices.Equal(asks, []int{mgr.On, mgr.Starting, mgr.On, mgr.Off}) {
		t.Errorf("In turns what is handed in: %v", asks)
	}
	asks[0], asks[1] = mgr.Failed, mgr.Failed
	names(t, "In", got, "r", "u")
	names(t, "In of others", m.In(asks...), "r")
}

// A graph may be used by two managers, and another one stays as it is.
func TestManagersOfTheSameUnits(t *testing.T) {
	g := of(t, plain("u", "/a"))
	one, two := over(t, volume(t, "/a")), over(t, volume(t, "/a"))
	one.Set(g)
	two.Set(g)
	bring(t, one, "u", mgr.On)
	stands(t, "the other one", two, "u", mgr.Off, 0)
	happened(t, "the other one", two)
	two.Set(of(t))
	if !sameNames(one.Graph(), g) || len(two.Graph().Names()) != 0 {
		t.Error("the units of the one are turned by the other one")
	}
}

func sameNames(a, b *graph.Graph) bool { return slices.Equal(a.Names(), b.Names()) }

func TestLoseInTheMidst(t *testing.T) {
	v, w := volume(t, "/a", "/b"), volume(t, "/c", "/a")
	units := []unit.Unit{plain("off", "/a"), plain("starting", "/a", "/b"), plain("on", "/a"), plain("stopping", "/b"), plain("failed", "/a"), plain("on-too", "/a")}
	m := over(t, v, units...)
	for s := range 5 {
		bring(t, m, states[s], s)
	}
	// One of which there isn't any more is off, too, and something has happened of which nobody has asked yet.
	told(t, "Start", m.Start("on-too"), api.OK)
	told(t, "Ready", m.Ready("on-too"), api.OK)
	m.Set(of(t, units[:5]...))
	m.Lose(w)
	happened(t, "Lose", m)
	for _, u := range units {
		stands(t, "Lose", m, u.Name, mgr.Off, 0)
		told(t, "Ready behind Lose", m.Ready(u.Name), api.ErrState)
		told(t, "Stop behind Lose", m.Stop(u.Name), api.ErrState)
		told(t, "Fail behind Lose", m.Fail(u.Name), api.ErrState)
	}
	for pid := range 10 {
		told(t, "Pick behind Lose", m.Pick(pid), api.ErrNone)
	}
	names(t, "In behind Lose", m.In(0, 1, 2, 3, 4))
	runs(t, "Lose", m)
	names(t, "the units behind Lose", m.Graph().Names(), "failed", "off", "on", "starting", "stopping")
	// No file is let go, as layer 8 says: who knew those is asked no more.
	held(t, "Lose", v, map[int]int{2: 3, 3: 2})
	held(t, "Lose", w, nil)
	told(t, "Start behind Lose", m.Start("on"), api.OK)
	stands(t, "Start behind Lose", m, "on", mgr.Starting, 6, "/a")
	held(t, "Start behind Lose", w, map[int]int{3: 1})
	told(t, "Start behind Lose of what isn't there", m.Start("on-too"), api.ErrNone)
	told(t, "Start behind Lose without its file", m.Start("stopping"), api.ErrNone)
	happened(t, "Start behind Lose", m, issued("on"), broke("stopping"))
	told(t, "Fail behind Lose", m.Fail("on"), api.OK)
	held(t, "Fail behind Lose", v, map[int]int{2: 3, 3: 2})
	held(t, "Fail behind Lose", w, nil)
}

func TestLoseOfNothing(t *testing.T) {
	v := volume(t, "/a")
	m := mgr.New(proc.New(volume(t)))
	m.Lose(v)
	m.Lose(v)
	happened(t, "Lose of nothing", m)
	m.Set(of(t, plain("u", "/a")))
	told(t, "Start", m.Start("u"), api.OK)
	stands(t, "Start", m, "u", mgr.Starting, 1, "/a")
	held(t, "Start", v, map[int]int{2: 1})
}
