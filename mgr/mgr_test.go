package mgr_test

import (
	"math"
	"slices"
	"testing"

	"farrier/api"
	"farrier/mgr"
	"farrier/proc"
	"farrier/tree"
	"farrier/unit"
)

func TestExampleOfWhatRequiresAnother(t *testing.T) {
	v := volume(t, "/a", "/b")
	a := unit.Unit{Name: "a", Files: []string{"/a"}, Requires: []string{"b"}}
	b := unit.Unit{Name: "b", Files: []string{"/b"}, Retry: 1}
	m := over(t, v, a, b)
	told(t, "a's start", m.Start("a"), api.ErrNeeds)
	told(t, "b's start", m.Start("b"), api.OK)
	told(t, "a's start, while b is starting", m.Start("a"), api.ErrNeeds)
	told(t, "b's failure", m.Fail("b"), api.OK)
	stands(t, "b is tried again", m, "b", mgr.Starting, 2, "/b")
	told(t, "a's start, while b is tried again", m.Start("a"), api.ErrNeeds)
	told(t, "b's coming to run", m.Ready("b"), api.OK)
	stands(t, "b runs", m, "b", mgr.On, 2, "/b")
	told(t, "a's start, while b runs", m.Start("a"), api.OK)
	stands(t, "a may start", m, "a", mgr.Starting, 3, "/a")
	happened(t, "the example", m, issued("b"), issued("b"), started("b"), issued("a"))
}

func TestTheNumbersOfStatesAndOfWhatHappens(t *testing.T) {
	if got := []int{mgr.Off, mgr.Starting, mgr.On, mgr.Stopping, mgr.Failed}; !slices.Equal(got, []int{0, 1, 2, 3, 4}) {
		t.Errorf("states are %v", got)
	}
	if got := []int{mgr.Issued, mgr.Started, mgr.Asked, mgr.Stopped, mgr.Broke}; !slices.Equal(got, []int{0, 1, 2, 3, 4}) {
		t.Errorf("kinds are %v", got)
	}
}

func TestAManagerOfNoUnits(t *testing.T) {
	m := mgr.New(proc.New(volume(t, "/a")))
	if m.Graph() == nil || len(m.Graph().Names()) != 0 {
		t.Fatal("a new manager's units aren't none")
	}
	none := func(what string) {
		t.Helper()
		for _, n := range []string{"", "a", "x y", "\xff"} {
			told(t, what+": Start", m.Start(n), api.ErrNone)
			told(t, what+": Ready", m.Ready(n), api.ErrState)
			told(t, what+": Stop", m.Stop(n), api.ErrState)
			told(t, what+": Fail", m.Fail(n), api.ErrState)
			stands(t, what, m, n, mgr.Off, 0)
		}
		for _, pid := range []int{math.MinInt, -1, 0, 1, 2, math.MaxInt} {
			told(t, what+": Pick", m.Pick(pid), api.ErrNone)
		}
		names(t, what+": In", m.In(0, 1, 2, 3, 4))
		runs(t, what, m)
		happened(t, what, m)
	}
	none("a new manager")
	m.Set(of(t))
	none("a manager of a graph without units")
}

func TestOtherUnits(t *testing.T) {
	v := volume(t, "/a", "/b", "/c")
	var first []unit.Unit
	for s := range 5 {
		first = append(first, plain(states[s], "/a"))
	}
	m := over(t, v, first...)
	names(t, "the first units", m.Graph().Names(), "failed", "off", "on", "starting", "stopping")
	for _, s := range []int{mgr.Starting, mgr.On, mgr.Stopping, mgr.Failed} {
		bring(t, m, states[s], s)
	}
	same := func(what string) {
		t.Helper()
		stands(t, what, m, "off", mgr.Off, 0)
		stands(t, what, m, "starting", mgr.Starting, 1, "/a")
		stands(t, what, m, "on", mgr.On, 2, "/a")
		stands(t, what, m, "stopping", mgr.Stopping, 3, "/a")
		stands(t, what, m, "failed", mgr.Failed, 0)
		runs(t, what, m, 1, 2, 3)
		held(t, what, v, map[int]int{2: 3})
		happened(t, what, m)
	}
	same("the first units")
	m.Set(of(t, plain("on", "/b"), plain("starting", "/b"), plain("new", "/c")))
	names(t, "other units", m.Graph().Names(), "new", "on", "starting")
	if u, ok := m.Graph().Get("on"); !ok || !slices.Equal(u.Files, []string{"/b"}) {
		t.Errorf("other units: on is %v, %v", u, ok)
	}
	same("some of which are others")
	m.Set(of(t))
	names(t, "no units", m.Graph().Names())
	same("none of which there are any more")
	m.Set(of(t, first...))
	same("all of which there are again")
	told(t, "Start behind others", m.Start("off"), api.OK)
	stands(t, "Start behind others", m, "off", mgr.Starting, 5, "/a")
	told(t, "Start of what isn't there any more", m.Start("new"), api.ErrNone)
}

// Units that there aren't any more go on to be told of, but start no more.
func TestUnitsThatThereAreNotAnyMore(t *testing.T) {
	v := volume(t, "/a")
	m := over(t, v, plain("one", "/a"), plain("two", "/a"), plain("three", "/a"), plain("four", "/a"))
	bring(t, m, "one", mgr.Starting)
	bring(t, m, "two", mgr.On)
	bring(t, m, "three", mgr.Stopping)
	bring(t, m, "four", mgr.Failed)
	m.Set(of(t))
	told(t, "Ready", m.Ready("one"), api.OK)
	stands(t, "Ready", m, "one", mgr.On, 1, "/a")
	told(t, "Stop of one that is on", m.Stop("two"), api.OK)
	stands(t, "Stop of one that is on", m, "two", mgr.Stopping, 2, "/a")
	told(t, "Fail of one that is stopping", m.Fail("three"), api.OK)
	stands(t, "Fail of one that is stopping", m, "three", mgr.Off, 0)
	told(t, "Stop of a failed one", m.Stop("four"), api.OK)
	stands(t, "Stop of a failed one", m, "four", mgr.Off, 0)
	told(t, "Pick", m.Pick(2), api.OK)
	stands(t, "Pick", m, "two", mgr.Off, 0)
	told(t, "Fail of one that is on", m.Fail("one"), api.OK)
	stands(t, "Fail of one that is on", m, "one", mgr.Failed, 0)
	happened(t, "all", m, started("one"), asked("two"), stopped("three"), stopped("four"), stopped("two"), broke("one"))
	for _, n := range []string{"one", "two", "three", "four"} {
		told(t, "Start of "+n, m.Start(n), api.ErrNone)
	}
	held(t, "all", v, nil)
	happened(t, "starts that are refused", m)
}

func TestStartInEachState(t *testing.T) {
	for s, want := range map[int]api.Errno{mgr.Off: api.OK, mgr.Starting: api.ErrState, mgr.On: api.ErrState, mgr.Stopping: api.ErrState, mgr.Failed: api.OK} {
		v := volume(t, "/a", "/b")
		m := over(t, v, plain("u", "/a", "/b", "/a"))
		bring(t, m, "u", s)
		what, pid, has := "Start of one that is "+states[s], m.Pid("u"), m.Has("u")
		told(t, what, m.Start("u"), want)
		if want != api.OK {
			stands(t, what, m, "u", s, pid, has...)
			happened(t, what, m)
			continue
		}
		// In the state Failed one ran ahead, whose number isn't used again.
		pid = map[int]int{mgr.Off: 1, mgr.Failed: 2}[s]
		stands(t, what, m, "u", mgr.Starting, pid, "/a", "/b", "/a")
		happened(t, what, m, issued("u"))
		if p, ok := m.Get(pid); !ok || !slices.Equal(p.Maps, []int{2, 3, 2}) {
			t.Errorf("%s: %v, %v runs", what, p, ok)
		}
		held(t, what, v, map[int]int{2: 2, 3: 1})
	}
}

func TestStartOfAUnitThatIsNotThere(t *testing.T) {
	for s := range 5 {
		v := volume(t, "/a")
		m := over(t, v, plain("u", "/a"))
		bring(t, m, "u", s)
		m.Set(of(t, plain("w", "/a")))
		pid, has := m.Pid("u"), m.Has("u")
		what := "Start of one that was " + states[s] + ", and isn't there any more"
		told(t, what, m.Start("u"), api.ErrNone)
		stands(t, what, m, "u", s, pid, has...)
		told(t, "Start of one that there never was", m.Start("x"), api.ErrNone)
		stands(t, "Start of one that there never was", m, "x", mgr.Off, 0)
		happened(t, what, m)
	}
}

// needy is a unit that requires others.
func needy(n, file string, requires ...string) unit.Unit {
	return unit.Unit{Name: n, Files: []string{file}, Requires: requires}
}

func TestStartWhereWhatItRequiresIsInEachState(t *testing.T) {
	for s := range 5 {
		m := over(t, volume(t, "/a", "/b"), needy("u", "/a", "r"), plain("r", "/b"))
		bring(t, m, "r", s)
		what := "Start where what it requires is " + states[s]
		pid, has := m.Pid("r"), m.Has("r")
		if s == mgr.On {
			told(t, what, m.Start("u"), api.OK)
			stands(t, what, m, "u", mgr.Starting, 2, "/a")
			happened(t, what, m, issued("u"))
		} else {
			told(t, what, m.Start("u"), api.ErrNeeds)
			stands(t, what, m, "u", mgr.Off, 0)
			happened(t, what, m)
		}
		stands(t, what, m, "r", s, pid, has...)
	}
}

func TestStartWhereOneOfSeveralThatItRequiresIsNotOn(t *testing.T) {
	m := over(t, volume(t, "/a"), needy("u", "/a", "x", "y", "z"), needy("x", "/a"), needy("y", "/a"), needy("z", "/a", "w"), needy("w", "/a"))
	for _, n := range []string{"w", "x", "y", "z"} {
		bring(t, m, n, mgr.On)
	}
	for _, n := range []string{"x", "y", "z"} {
		told(t, "Stop", m.Stop(n), api.OK)
		told(t, "Start where "+n+" is stopping", m.Start("u"), api.ErrNeeds)
		told(t, "Pick", m.Pick(m.Pid(n)), api.OK)
		told(t, "Start where "+n+" is off", m.Start("u"), api.ErrNeeds)
		bring(t, m, n, mgr.On)
	}
	// What is required by what it requires isn't asked.
	told(t, "Stop", m.Stop("w"), api.OK)
	told(t, "Start where all that it requires are on", m.Start("u"), api.OK)
	stands(t, "all that it requires are on", m, "z", mgr.On, 7, "/a")
	stands(t, "all that it requires are on", m, "u", mgr.Starting, 8, "/a")
}

func TestStartAsksTheUnitsThatThereAreNow(t *testing.T) {
	m := over(t, volume(t, "/a", "/b"), needy("u", "/a", "r"), plain("r", "/b"))
	told(t, "Start ahead", m.Start("u"), api.ErrNeeds)
	m.Set(of(t, plain("u", "/b")))
	told(t, "Start where what it required isn't there any more", m.Start("u"), api.OK)
	stands(t, "Start with other files", m, "u", mgr.Starting, 1, "/b")
	m = over(t, volume(t, "/a", "/b"), plain("u", "/a"), plain("r", "/b"))
	m.Set(of(t, needy("u", "/a", "r"), plain("r", "/b")))
	told(t, "Start where something is required from now on", m.Start("u"), api.ErrNeeds)
	bring(t, m, "r", mgr.On)
	m.Set(of(t, plain("u", "/a")))
	m.Set(of(t, needy("u", "/a", "r"), plain("r", "/a")))
	told(t, "Start where what it requires went, came back, and is on", m.Start("u"), api.OK)
}

func TestStartAsksNothingButRequires(t *testing.T) {
	u := unit.Unit{Name: "u", Files: []string{"/a"}, After: []string{"x", "no"}, Before: []string{"y", "no"}, Wants: []string{"x", "y", "no"}, PartOf: []string{"x", "u"}}
	for s := range 5 {
		m := over(t, volume(t, "/a"), u, plain("x", "/a"), plain("y", "/a"))
		bring(t, m, "x", s)
		told(t, "Start of what stands behind one that is "+states[s], m.Start("u"), api.OK)
	}
}

// Of the errors ErrNone, ErrState, ErrNeeds and layer 8's the first one is told.
func TestWhichErrorOfStartIsTold(t *testing.T) {
	m := over(t, volume(t, "/a"), plain("u", "/a"), plain("r", "/a"))
	for s := range 5 {
		if s != mgr.Off {
			m.Lose(volume(t, "/a"))
			m.Set(of(t, plain("u", "/a"), plain("r", "/a")))
			bring(t, m, "u", s)
		}
		m.Set(of(t, needy("u", "/none", "r"), plain("r", "/a")))
		want := map[int]api.Errno{mgr.Off: api.ErrNeeds, mgr.Starting: api.ErrState, mgr.On: api.ErrState, mgr.Stopping: api.ErrState, mgr.Failed: api.ErrNeeds}[s]
		told(t, states[s]+", without what it requires, and without its file", m.Start("u"), want)
		if m.State("u") != s {
			t.Errorf("%s: %s behind it", states[s], states[m.State("u")])
		}
		happened(t, states[s], m)
		bring(t, m, "r", mgr.On)
		if want == api.ErrNeeds {
			want = api.ErrNone
		}
		told(t, states[s]+", with what it requires, and without its file", m.Start("u"), want)
		m.Set(of(t, plain("r", "/a")))
		told(t, states[s]+", and not there", m.Start("u"), api.ErrNone)
		m.Events()
	}
}

func TestStartWithoutItsFiles(t *testing.T) {
	nine := slices.Repeat([]string{"/a"}, 9)
	for _, c := range []struct {
		what  string
		files []string
		e     api.Errno
	}{
		{"no such file", []string{"/none"}, api.ErrNone},
		{"no such file among others", []string{"/a", "/b", "/none", "/d"}, api.ErrNone},
		{"no path", []string{"/a", "a"}, api.ErrNone},
		{"a directory", []string{"/a", "/d", "/none"}, api.ErrDir},
		{"the root", []string{"/"}, api.ErrDir},
		{"too many", nine, api.ErrMany},
		{"too many, none of which is there", make([]string, 9), api.ErrMany},
	} {
		for _, s := range []int{mgr.Off, mgr.Failed} {
			v := volume(t, "/a", "/b")
			turn(t, v, tree.Op{Kind: tree.Mkdir, Path: "/d"})
			m := over(t, v, plain("u", "/a"))
			bring(t, m, "u", s)
			m.Set(of(t, unit.Unit{Name: "u", Files: c.files, Retry: 3}))
			what := c.what + ", " + states[s]
			told(t, what, m.Start("u"), c.e)
			stands(t, what, m, "u", mgr.Failed, 0)
			happened(t, what, m, broke("u"))
			told(t, what+", again", m.Start("u"), c.e)
			stands(t, what+", again", m, "u", mgr.Failed, 0)
			happened(t, what+", again", m, broke("u"))
			held(t, what, v, nil)
			runs(t, what, m)
			m.Set(of(t, plain("u", "/b")))
			told(t, what+", and mended", m.Start("u"), api.OK)
			stands(t, what+", and mended", m, "u", mgr.Starting, map[int]int{mgr.Off: 1, mgr.Failed: 2}[s], "/b")
		}
	}
}

func TestStartWithAsManyFilesAsThereMayBe(t *testing.T) {
	v := volume(t, "/a", "/b")
	eight := []string{"/a", "/b", "/a", "/a", "/b", "/a", "/b", "/b"}
	m := over(t, v, plain("eight", eight...), plain("none"))
	told(t, "eight files", m.Start("eight"), api.OK)
	told(t, "no files", m.Start("none"), api.OK)
	stands(t, "eight files", m, "eight", mgr.Starting, 1, eight...)
	stands(t, "no files", m, "none", mgr.Starting, 2)
	held(t, "eight files", v, map[int]int{2: 4, 3: 4})
}

// many are 16 units, whose names begin with a letter; each has the file /a, and starts anew as often as it may.
func many(letter string) []unit.Unit {
	var units []unit.Unit
	for i := range 16 {
		u := plain(letter+string(rune('a'+i)), "/a")
		u.Retry = 3
		units = append(units, u)
	}
	return units
}

func TestAsManyAsMayRunAtOnce(t *testing.T) {
	v := volume(t, "/a")
	m := mgr.New(proc.New(v))
	for _, letter := range []string{"x", "y"} {
		m.Set(of(t, many(letter)...))
		for _, u := range many(letter) {
			told(t, "one of 32", m.Start(u.Name), api.OK)
		}
	}
	if events := m.Events(); len(events) != 32 || len(m.In(mgr.Starting)) != 32 {
		t.Errorf("%v has happened, %v are starting", events, m.In(mgr.Starting))
	}
	m.Set(of(t, plain("one", "/a"), plain("nine", make([]string, 9)...), plain("bad", "/none"), many("y")[0]))
	told(t, "one more", m.Start("one"), api.ErrFull)
	stands(t, "one more", m, "one", mgr.Failed, 0)
	told(t, "one more, without its file", m.Start("bad"), api.ErrFull)
	told(t, "one more, of too many files", m.Start("nine"), api.ErrMany)
	happened(t, "one more", m, broke("one"), broke("bad"), broke("nine"))
	told(t, "the failure of one, while 32 run", m.Fail("ya"), api.OK)
	stands(t, "the failure of one, while 32 run", m, "ya", mgr.Starting, 33, "/a")
	told(t, "Stop", m.Stop("xa"), api.OK)
	told(t, "one more, while one is to end", m.Start("one"), api.ErrFull)
	told(t, "Pick", m.Pick(1), api.OK)
	told(t, "in the place of one that ended", m.Start("one"), api.OK)
	stands(t, "in the place of one that ended", m, "one", mgr.Starting, 34, "/a")
	held(t, "behind all", v, map[int]int{2: 32})
}

func TestReadyInEachState(t *testing.T) {
	for s := range 5 {
		v := volume(t, "/a")
		m := over(t, v, plain("u", "/a"))
		bring(t, m, "u", s)
		what, pid, has := "Ready of one that is "+states[s], m.Pid("u"), m.Has("u")
		if s == mgr.Starting {
			told(t, what, m.Ready("u"), api.OK)
			stands(t, what, m, "u", mgr.On, pid, "/a")
			happened(t, what, m, started("u"))
			continue
		}
		told(t, what, m.Ready("u"), api.ErrState)
		stands(t, what, m, "u", s, pid, has...)
		happened(t, what, m)
	}
}

func TestStopInEachState(t *testing.T) {
	for s := range 5 {
		v := volume(t, "/a")
		m := over(t, v, plain("u", "/a"))
		bring(t, m, "u", s)
		what, pid, has := "Stop of one that is "+states[s], m.Pid("u"), m.Has("u")
		switch s {
		case mgr.Starting, mgr.On:
			told(t, what, m.Stop("u"), api.OK)
			stands(t, what, m, "u", mgr.Stopping, 1, "/a")
			happened(t, what, m, asked("u"))
			// It runs till it goes on, and has its files.
			held(t, what, v, map[int]int{2: 1})
			if p, ok := m.Get(1); !ok || !p.Ending {
				t.Errorf("%s: %v, %v runs", what, p, ok)
			}
		case mgr.Failed:
			told(t, what, m.Stop("u"), api.OK)
			stands(t, what, m, "u", mgr.Off, 0)
			happened(t, what, m, stopped("u"))
		default:
			told(t, what, m.Stop("u"), api.ErrState)
			stands(t, what, m, "u", s, pid, has...)
			happened(t, what, m)
		}
	}
	m := over(t, volume(t, "/a"), plain("u", "/a"))
	told(t, "Stop of a unit that there never was", m.Stop("x"), api.ErrState)
	stands(t, "Stop of a unit that there never was", m, "x", mgr.Off, 0)
	happened(t, "Stop of a unit that there never was", m)
}

// What requires a unit stays as it is, whatever becomes of that.
func TestWhatRequiresAUnitStays(t *testing.T) {
	for s := mgr.Starting; s <= mgr.Failed; s++ {
		for _, end := range []string{"stops", "fails"} {
			m := over(t, volume(t, "/a"), needy("u", "/a", "r"), plain("r", "/a"))
			bring(t, m, "r", mgr.On)
			bring(t, m, "u", s)
			pid, has := m.Pid("u"), m.Has("u")
			if end == "stops" {
				told(t, "Stop", m.Stop("r"), api.OK)
				told(t, "Pick", m.Pick(1), api.OK)
				happened(t, "what is required "+end, m, asked("r"), stopped("r"))
			} else {
				told(t, "Fail", m.Fail("r"), api.OK)
				happened(t, "what is required "+end, m, broke("r"))
			}
			stands(t, "what is required "+end, m, "u", s, pid, has...)
		}
	}
}
