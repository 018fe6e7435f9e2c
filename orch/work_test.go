package orch_test

import (
	"slices"
	"testing"

	"farrier/api"
	"farrier/arc"
	"farrier/dep"
	"farrier/mgr"
	"farrier/swap"
	"farrier/tree"
	"farrier/txn"
)

func TestAUnitRunsWithTheNewFile(t *testing.T) {
	one, two := pkg("web", "1", "/bin/web one", "unit web;file /bin/web"), pkg("web", "2", "/bin/web two", "unit web;file /bin/web;retry 1")
	m := on(t, one)
	m.bring("web")
	m.begin(come(two))
	m.to(txn.Restarting)
	m.Deeds()
	if got := m.Pending(); !slices.Equal(got, []string{"web"}) {
		t.Errorf("%q are pending", got)
	}
	waits := func(what string) {
		t.Helper()
		for range 3 {
			if m.Step() {
				t.Errorf("%s: a step does something", what)
			}
		}
		m.in(what, txn.Restarting)
		m.happened(what)
	}
	units := m.Graph()
	m.steps(1)
	m.happened("a step", "web asked")
	waits("it is stopping")
	if m.Graph() != units {
		t.Error("the units are others while one is stopping")
	}
	m.told("Pick", m.Pick(m.Pid("web")), api.OK)
	m.happened("Pick", "web stopped")
	if m.Graph() != units {
		t.Error("the units are others ahead of the next step")
	}
	m.steps(1)
	m.happened("a step", "web issued")
	if u, _ := m.Graph().Get("web"); u.Retry != 1 {
		t.Error("the units are those of before")
	}
	waits("it is starting")
	m.told("Fail", m.Fail("web"), api.OK)
	m.happened("Fail", "web issued")
	waits("it is starting again")
	m.told("Ready", m.Ready("web"), api.OK)
	m.Events()
	if !slices.Equal(m.Base().Names(), []string{"web"}) || len(m.Pending()) != 0 {
		t.Errorf("%v are there, %q pending", m.Base(), m.Pending())
	}
	if e, _ := m.Base().Get("web"); e.Version != "1" {
		t.Errorf("ahead of the end %s is there", e.Version)
	}
	m.steps(1)
	m.did("it runs", "committed")
	m.is("it runs", of(two))
	p, _ := m.Get(m.Pid("web"))
	if i, _ := m.vol.Find("/bin/web"); !slices.Equal(p.Maps, []int{i}) {
		t.Errorf("it has %v, not %d", p.Maps, i)
	}
	if b, _ := m.vol.Read("/bin/web"); string(b) != "two" {
		t.Errorf("the file is %q", b)
	}
}

// restarts is an upgrade while units run, and what is told of units, if all goes well.
type restarts struct {
	there  []arc.Pkg
	run    []string
	change dep.Change
	want   []string
	pend   []string
}

func TestWhichUnitsRunAnew(t *testing.T) {
	lib := func(v string) arc.Pkg { return pkg("lib", v, "/lib "+v) }
	app := func(text ...string) arc.Pkg { return pkg("app", "1", append(text, "/app x")...) }
	for what, c := range map[string]restarts{
		"none, where no file of theirs is replaced": {
			there: []arc.Pkg{lib("1"), app("unit u;file /app")}, run: []string{"u"}, change: come(lib("2")),
		},
		"none, where none runs": {
			there: []arc.Pkg{lib("1"), app("unit u;file /lib")}, change: come(lib("2")),
		},
		"one by its second file": {
			there: []arc.Pkg{lib("1"), app("unit u;file /app;file /lib")}, run: []string{"u"}, change: come(lib("2")),
			want: []string{"u asked", "u stopped", "u issued", "u started"},
		},
		"one that wants much": {
			there: []arc.Pkg{lib("1"), app("unit u;file /app;file /lib;wants x;wants reboots;wants boot")}, run: []string{"u"}, change: come(lib("2")),
			want: []string{"u asked", "u stopped", "u issued", "u started"},
		},
		"those that require it, and those that are part of it": {
			there: []arc.Pkg{lib("1"), app("unit u;file /lib", "unit v;file /app;requires u", "unit w;file /app;partof v", "unit x;file /app;wants u;after u"), pkg("more", "1", "unit y;file /app;requires v")},
			run:   []string{"u", "v", "w", "x"}, change: come(lib("2")),
			want: []string{"w asked", "w stopped", "v asked", "v stopped", "u asked", "u stopped", "u issued", "u started", "v issued", "v started", "w issued", "w started"},
		},
		"in the order of the graph": {
			there: []arc.Pkg{lib("1"), app("unit a;file /lib", "unit b;file /lib;before a", "unit c;file /lib;before b")},
			run:   []string{"a", "c", "b"}, change: come(lib("2")),
			want: []string{"a asked", "a stopped", "b asked", "b stopped", "c asked", "c stopped", "c issued", "c started", "b issued", "b started", "a issued", "a started"},
		},
		"in the order of each its graph": {
			there:  []arc.Pkg{pkg("p", "1", "/p 1", "unit a;file /p", "unit b;file /p;after a")},
			run:    []string{"a", "b"},
			change: come(pkg("p", "2", "/p 2", "unit a;file /p;requires b", "unit b;file /p")),
			want:   []string{"b asked", "b stopped", "a asked", "a stopped", "b issued", "b started", "a issued", "a started"},
		},
		"what it requires by now": {
			there:  []arc.Pkg{pkg("p", "1", "/p 1", "unit a;file /p"), app("unit x;file /app", "unit z;file /app")},
			run:    []string{"a"},
			change: come(pkg("p", "2", "/p 2", "unit a;file /p;requires b", "unit b;file /app;requires x", "unit c;file /p")),
			want:   []string{"a asked", "a stopped", "x issued", "x started", "b issued", "b started", "a issued", "a started"},
		},
		"what it requires, but if that runs": {
			there:  []arc.Pkg{pkg("p", "1", "/p 1", "unit a;file /p;requires x;requires y"), app("unit x;file /app", "unit y;file /app")},
			run:    []string{"x", "y", "a"},
			change: come(pkg("p", "2", "/p 2", "unit a;file /p;requires x;requires y")),
			want:   []string{"a asked", "a stopped", "a issued", "a started"},
		},
		"not one that wants a reboot": {
			there: []arc.Pkg{lib("1"), app("unit u;file /lib;wants reboot", "unit v;file /app;requires u")}, run: []string{"u", "v"}, change: come(lib("2")),
			pend: []string{"u"},
		},
		"one that wants one, where what it requires is hit": {
			there: []arc.Pkg{lib("1"), app("unit u;file /lib;wants x;wants reboot;requires v", "unit v;file /lib")}, run: []string{"v", "u"}, change: come(lib("2")),
			want: []string{"u asked", "u stopped", "v asked", "v stopped", "v issued", "v started", "u issued", "u started"},
		},
		"not one that wanted one before": {
			there: []arc.Pkg{pkg("p", "1", "/p 1", "unit u;file /p;wants reboot")}, run: []string{"u"}, change: come(pkg("p", "2", "/p 2", "unit u;file /p")),
			pend: []string{"u"},
		},
		"one that wants one from now on": {
			there: []arc.Pkg{pkg("p", "1", "/p 1", "unit u;file /p")}, run: []string{"u"}, change: come(pkg("p", "2", "/p 2", "unit u;file /p;wants reboot")),
			want: []string{"u asked", "u stopped", "u issued", "u started"},
		},
		"one that is gone, which stops alone": {
			there: []arc.Pkg{lib("1"), app("unit u;file /lib", "unit v;file /app")}, run: []string{"u", "v"}, change: gone("app"),
			want: []string{"v asked", "v stopped", "u asked", "u stopped"},
		},
		"one that is gone, whose files stay, and that wants a reboot": {
			there:  []arc.Pkg{pkg("p", "1", "/p 1", "unit u;file /p;wants reboot", "unit v;file /p")},
			run:    []string{"u", "v"},
			change: come(pkg("p", "2", "/p 1", "unit v;file /p")),
			want:   []string{"u asked", "u stopped"},
		},
		"what leans on one that is gone": {
			there:  []arc.Pkg{pkg("p", "1", "/p 1", "unit u;file /p", "unit v;file /p;requires u"), app("unit w;file /app;partof v")},
			run:    []string{"u", "v", "w"},
			change: dep.Change{Come: []arc.Pkg{pkg("p", "2", "/p 1", "unit v;file /p"), pkg("app", "2", "/app x", "unit w;file /app")}},
			want:   []string{"w asked", "w stopped", "v asked", "v stopped", "u asked", "u stopped", "v issued", "v started", "w issued", "w started"},
		},
		"one whose file goes, and that has another one by now": {
			there:  []arc.Pkg{pkg("p", "1", "/p 1", "/q 1", "unit u;file /p")},
			run:    []string{"u"},
			change: come(pkg("p", "2", "/q 1", "unit u;file /q")),
			want:   []string{"u asked", "u stopped", "u issued", "u started"},
		},
		"not one whose text alone is another": {
			there:  []arc.Pkg{pkg("p", "1", "/p 1", "/q 1", "unit u;file /p")},
			run:    []string{"u"},
			change: come(pkg("p", "2", "/p 1", "/q 1", "unit u;file /q")),
		},
		"one that is another package's by now": {
			there:  []arc.Pkg{pkg("p", "1", "/p 1", "unit u;file /p")},
			run:    []string{"u"},
			change: dep.Change{Come: []arc.Pkg{pkg("q", "1", "/p 2", "unit u;file /p")}, Go: []string{"p"}},
			want:   []string{"u asked", "u stopped", "u issued", "u started"},
		},
		"not a new one": {
			there: []arc.Pkg{lib("1")}, change: come(pkg("p", "1", "/p x", "unit u;file /p"), lib("2")),
		},
	} {
		m := on(t, c.there...)
		m.bring(c.run...)
		m.begin(c.change)
		m.end()
		m.did(what, "began", "turned 1", "turned 2", "committed")
		m.happened(what, c.want...)
		if got := m.Pending(); !slices.Equal(got, c.pend) {
			t.Errorf("%s: %q are pending, not %q", what, got, c.pend)
		}
		after, f := dep.After(of(c.there...), c.change)
		if f != (dep.Fault{}) {
			t.Fatal(f)
		}
		m.is(what, after)
		// Behind the next boot nothing waits for a reboot any more.
		m.boot()
		if len(m.Pending()) != 0 {
			t.Errorf("%s: %q are pending behind a boot", what, m.Pending())
		}
	}
}

// Of the states of a unit whose file is replaced just two let it run anew.
func TestAUnitInEachState(t *testing.T) {
	one, two := pkg("p", "1", "/p 1", "unit u;file /p", "unit v;file /p"), pkg("p", "2", "/p 2", "unit u;file /p", "unit v;file /p")
	for state, want := range [][]string{
		mgr.Off:      nil,
		mgr.Starting: {"u asked", "u stopped", "u issued", "u started"},
		mgr.On:       {"u asked", "u stopped", "u issued", "u started"},
		mgr.Stopping: nil,
		mgr.Failed:   nil,
	} {
		m := on(t, one)
		switch state {
		case mgr.Starting:
			m.Start("u")
		case mgr.On:
			m.bring("u")
		case mgr.Stopping:
			m.bring("u")
			m.Stop("u")
		case mgr.Failed:
			m.bring("u")
			m.Fail("u")
		}
		m.Events()
		m.begin(come(two))
		m.end()
		m.happened("one in a state", want...)
		m.is("one in a state", of(two))
		if len(want) == 0 && m.State("u") != state {
			t.Errorf("its state %d is %d by now", state, m.State("u"))
		}
	}
}

// So it is with one that leans on a unit whose file is replaced.
func TestAUnitThatLeansInEachState(t *testing.T) {
	text := []string{"unit u;file /p", "unit v;file /q;requires u"}
	one, two, q := pkg("p", "1", append(text, "/p 1")...), pkg("p", "2", append(text, "/p 2")...), pkg("q", "1", "/q 1")
	alone := []string{"u asked", "u stopped", "u issued", "u started"}
	both := []string{"v asked", "v stopped", "u asked", "u stopped", "u issued", "u started", "v issued", "v started"}
	for state, want := range [][]string{mgr.Off: alone, mgr.Starting: both, mgr.On: both, mgr.Stopping: alone, mgr.Failed: alone} {
		m := on(t, one, q)
		m.bring("u")
		if state != mgr.Off {
			m.told("Start", m.Start("v"), api.OK)
		}
		switch state {
		case mgr.On:
			m.Ready("v")
		case mgr.Stopping:
			m.Stop("v")
		case mgr.Failed:
			m.Fail("v")
		}
		m.Events()
		m.begin(come(two))
		m.to(txn.Restarting)
		if state == mgr.Stopping {
			m.steps(1)
			m.told("Pick", m.Pick(m.Pid("v")), api.OK)
			m.happened("it ends meanwhile", "u asked", "v stopped")
			want = want[1:]
		}
		m.end()
		m.happened("one that leans", want...)
		m.is("one that leans", of(two, q))
	}
}

// What leans on one that is stopping by itself, with a file that is superseded, runs anew, too; and what it requires is waited for, and started.
func TestWhatLeansOnOneThatIsStopping(t *testing.T) {
	text := []string{"unit u;file /p", "unit v;file /q;requires u"}
	m := on(t, pkg("p", "1", append(text, "/p 1")...), pkg("q", "1", "/q 1"))
	m.bring("u", "v")
	m.Stop("u")
	m.Events()
	m.begin(come(pkg("p", "2", append(text, "/p 2")...)))
	m.to(txn.Restarting)
	m.steps(1)
	m.happened("a step", "v asked")
	m.told("Pick", m.Pick(m.Pid("v")), api.OK)
	m.happened("Pick", "v stopped")
	if m.Step() {
		t.Error("a step does something while what is required is stopping")
	}
	m.in("while it is stopping", txn.Restarting)
	m.end()
	m.happened("the end", "u stopped", "u issued", "u started", "v issued", "v started")
	m.is("the end", of(pkg("p", "2", append(text, "/p 2")...), pkg("q", "1", "/q 1")))
}

// pair is two versions of a package of units of one file, each of which stands behind the one ahead.
func pair(units ...string) (arc.Pkg, arc.Pkg) {
	var text []string
	for i, n := range units {
		one := "unit " + n + ";file /p"
		if i > 0 {
			one += ";after " + units[i-1]
		}
		text = append(text, one)
	}
	return pkg("p", "1", append(text, "/p 1")...), pkg("p", "2", append(text, "/p 2")...)
}

func TestUnitsStopOneByOne(t *testing.T) {
	one, two := pair("a", "b", "c", "d")
	m := on(t, one)
	m.bring("a", "b", "c", "d")
	m.begin(come(two))
	m.to(txn.Restarting)
	if got := m.goes(); got != 1 {
		t.Errorf("%d steps do something till one is waited for", got)
	}
	m.happened("the first one", "d asked")
	// The next one fails meanwhile, and users stop the one behind that: they don't run any more, and start as the others do.
	m.told("Fail", m.Fail("c"), api.OK)
	m.told("Stop", m.Stop("b"), api.OK)
	m.told("Pick", m.Pick(m.Pid("b")), api.OK)
	m.told("Pick", m.Pick(m.Pid("d")), api.OK)
	m.happened("meanwhile", "c broke", "b asked", "b stopped", "d stopped")
	if got := m.goes(); got != 1 {
		t.Errorf("%d steps do something till the last one is waited for", got)
	}
	m.happened("the last one", "a asked")
	// One that has stopped is started by users: it isn't asked again.
	m.told("Start", m.Start("d"), api.OK)
	m.told("Fail", m.Fail("a"), api.OK)
	m.happened("meanwhile", "d issued", "a stopped")
	m.end()
	m.happened("the end", "a issued", "a started", "d started", "b issued", "b started", "c issued", "c started")
	m.is("the end", of(two))
	m.stand("the end", "a on", "b on", "c on", "d on")
	if len(m.Pending()) != 0 {
		t.Errorf("%q are pending", m.Pending())
	}
}

// Each is asked to stop once: what users start again behind it doesn't hold the upgrade up.
func TestEachIsAskedToStopOnce(t *testing.T) {
	one, two := pair("a", "b")
	m := on(t, one)
	m.bring("a", "b")
	m.begin(come(two))
	for range 300 {
		if _, under := m.Phase(); !under {
			break
		}
		if !m.Step() {
			m.settle()
		}
		for _, n := range []string{"a", "b"} {
			if m.State(n) == mgr.Off {
				m.Start(n)
			}
		}
	}
	m.is("with eager users", of(two))
	m.happened("with eager users", "b asked", "b stopped", "b issued", "a asked", "b started", "a stopped", "a issued", "a started")
}

// One that users stop, or that is stopping already as its turn comes, is waited for, and not asked.
func TestOneThatUsersStop(t *testing.T) {
	one, two := pair("a", "b")
	m := on(t, one)
	m.bring("a", "b")
	m.begin(come(two))
	m.to(txn.Restarting)
	m.steps(1)
	m.told("Stop", m.Stop("a"), api.OK)
	m.told("Pick", m.Pick(m.Pid("b")), api.OK)
	m.happened("meanwhile", "b asked", "a asked", "b stopped")
	if m.goes() != 0 {
		t.Error("a step does something while one is stopping")
	}
	m.end()
	m.happened("the end", "a stopped", "a issued", "a started", "b issued", "b started")
	m.is("the end", of(two))
}

// What is to be done is found out by the first step, and not again.
func TestWhatIsToBeDoneIsFoundOutOnce(t *testing.T) {
	one, two := pair("a", "b", "c")
	m := on(t, one)
	m.bring("b", "c")
	held := m.Pid("c")
	m.begin(come(two))
	m.to(txn.Swapping)
	// It runs with the old file, and with the new one behind the move.
	m.told("Start", m.Start("a"), api.OK)
	m.to(txn.Restarting)
	m.told("Stop", m.Stop("c"), api.OK)
	m.told("Pick", m.Pick(held), api.OK)
	m.Events()
	m.steps(1)
	m.told("Start", m.Start("c"), api.OK)
	m.happened("the first step", "b asked", "c issued")
	m.end()
	m.happened("the end", "a started", "c started", "b stopped", "a asked", "a stopped", "a issued", "a started", "b issued", "b started")
	m.is("the end", of(two))
}

// Where what is to start, or what that requires, is starting, or runs already, it isn't started again.
func TestWhatUsersStart(t *testing.T) {
	text := []string{"unit u;file /p;requires x;requires y", "unit x;file /q", "unit y;file /q"}
	m := on(t, pkg("p", "1", append(text, "/p 1")...), pkg("q", "1", "/q 1"))
	m.bring("x", "y", "u")
	for _, n := range []string{"x", "y"} {
		m.Fail(n)
		m.Start(n)
	}
	m.Events()
	m.begin(come(pkg("p", "2", append(text, "/p 2")...)))
	m.to(txn.Restarting)
	m.steps(1)
	m.told("Pick", m.Pick(m.Pid("u")), api.OK)
	m.happened("it stops", "u asked", "u stopped")
	if m.Step() {
		t.Error("a step does something while what is required is starting")
	}
	// One that fails as it is waited for, and wasn't started by the upgrade, is started once.
	m.told("Fail", m.Fail("x"), api.OK)
	m.told("Ready", m.Ready("y"), api.OK)
	m.steps(1)
	m.happened("one fails", "x broke", "y started", "x issued")
	m.told("Ready", m.Ready("x"), api.OK)
	m.steps(1)
	m.happened("both run", "x started", "u issued")
	m.told("Ready", m.Ready("u"), api.OK)
	m.steps(1)
	m.is("the end", of(pkg("p", "2", append(text, "/p 2")...), pkg("q", "1", "/q 1")))
}

// However a unit doesn't come to run, the upgrade turns round, and all runs again as before.
func TestTurnsRoundWhereAUnitDoesNotRun(t *testing.T) {
	text := func(retry string) []string {
		return []string{"unit u;file /p;retry " + retry, "unit v;file /p;requires u"}
	}
	for what, c := range map[string]struct {
		retry string
		do    func(m *machine)
		want  []string
	}{
		"it fails":                         {"0", func(m *machine) { m.Fail("u") }, []string{"u issued", "u broke"}},
		"it fails as often as it is tried": {"1", func(m *machine) { m.Fail("u"); m.Fail("u") }, []string{"u issued", "u issued", "u broke"}},
		"it fails behind having run":       {"1", func(m *machine) { m.Ready("u"); m.Fail("u") }, []string{"u issued", "u started", "u broke"}},
		"users stop it": {"0", func(m *machine) { m.Stop("u"); m.Pick(m.Pid("u")) },
			[]string{"u issued", "u asked", "u stopped"}},
		"users stop it as it has failed": {"0", func(m *machine) { m.Fail("u"); m.Stop("u") }, []string{"u issued", "u broke", "u stopped"}},
		"the next one fails": {"0", func(m *machine) { m.Ready("u"); m.Step(); m.Fail("v") },
			[]string{"u issued", "u started", "v issued", "v broke"}},
		"what the next one requires fails": {"0", func(m *machine) { m.Ready("u"); m.Step(); m.Fail("u"); m.Fail("v") },
			[]string{"u issued", "u started", "v issued", "u broke", "v broke"}},
	} {
		one, two := pkg("p", "1", append(text("0"), "/p 1")...), pkg("p", "2", append(text(c.retry), "/p 2")...)
		m := on(t, one)
		m.bring("u", "v")
		m.begin(come(two))
		m.to(txn.Restarting)
		for m.State("u") != mgr.Starting {
			if !m.Step() {
				m.settle()
			}
		}
		m.happened(what, "v asked", "v stopped", "u asked", "u stopped", "u issued")
		m.did(what, "began", "turned 1", "turned 2")
		c.do(m)
		m.steps(1)
		m.happened(what, c.want[1:]...)
		m.in(what, txn.Undoing)
		m.did(what, "turned 3 20")
		if up := m.upgrade(); up.At != 1 || up.Phase != txn.Undoing {
			t.Errorf("%s: %v is kept", what, up)
		}
		m.end()
		m.did(what, "turned 4 20", "undone 20")
		m.is(what, of(one))
		m.sums(what, one)
		m.stand(what, "u on", "v on")
	}
}

// Where a start is refused, it turns round by the same step.
func TestTurnsRoundWhereAStartIsRefused(t *testing.T) {
	one := pkg("p", "1", "/p 1", "/q 1", "unit u;file /p;file /q", "unit v;file /p")
	two := pkg("p", "2", "/p 2", "unit u;file /p;file /q", "unit v;file /p")
	m := on(t, one)
	m.bring("u", "v")
	m.begin(come(two))
	m.to(txn.Restarting)
	for m.State("u") != mgr.Off || m.State("v") != mgr.Off {
		if !m.Step() {
			m.settle()
		}
	}
	m.Events()
	m.Deeds()
	m.steps(1)
	m.happened("a file that isn't there any more", "u broke")
	m.did("a file that isn't there any more", "turned 3 20")
	m.end()
	m.is("undone", of(one))
	m.sums("undone", one)
	m.happened("undone", "u issued", "u started", "v issued", "v started")
	m.stand("undone", "u on", "v on")
}

// Where what it requires is stopped by users in between, a start is refused.
func TestTurnsRoundWhereWhatIsRequiredIsStopped(t *testing.T) {
	text := []string{"unit u;file /p;requires x;after y", "unit x;file /q", "unit y;file /p"}
	one, two := pkg("p", "1", append(text, "/p 1")...), pkg("p", "2", append(text, "/p 2")...)
	m := on(t, one, pkg("q", "1", "/q 1"))
	m.bring("x", "y", "u")
	m.begin(come(two))
	m.to(txn.Restarting)
	for m.State("y") != mgr.Starting {
		if !m.Step() {
			m.settle()
		}
	}
	m.Events()
	m.told("Stop", m.Stop("x"), api.OK)
	m.told("Ready", m.Ready("y"), api.OK)
	m.steps(1)
	m.in("what it requires is stopping", txn.Undoing)
	m.end()
	m.happened("undone", "x asked", "y started", "y asked", "x stopped", "y stopped", "x issued", "x started", "y issued", "y started", "u issued", "u started")
	m.is("undone", of(one, pkg("q", "1", "/q 1")))
	if len(m.Bad()) != 0 {
		t.Errorf("%q are bad", m.Bad())
	}
}

// A unit that had failed ahead of its turn is started once, too.
func TestOneThatHadFailedIsStartedOnce(t *testing.T) {
	text := []string{"unit u;file /p;requires x", "unit x;file /q"}
	one, two := pkg("p", "1", append(text, "/p 1")...), pkg("p", "2", append(text, "/p 2")...)
	q := pkg("q", "1", "/q 1")
	for _, fails := range []bool{false, true} {
		m := on(t, one, q)
		m.bring("x", "u")
		m.Fail("x")
		m.Events()
		m.begin(come(two))
		m.to(txn.Restarting)
		m.Deeds()
		m.steps(1)
		m.settle()
		m.steps(1)
		m.happened("it had failed", "u asked", "u stopped", "x issued")
		if !fails {
			m.end()
			m.happened("it runs", "x started", "u issued", "u started")
			m.is("it runs", of(two, q))
			continue
		}
		m.Fail("x")
		m.steps(1)
		m.did("it fails", "turned 3 20")
		m.end("x")
		// By the units of before it is started once more, and what requires it can't be.
		m.happened("it fails", "x broke", "x issued", "x broke")
		m.did("it fails", "turned 4 20", "lost x", "lost u", "undone 20")
		if !slices.Equal(m.Bad(), []string{"x", "u"}) {
			t.Errorf("%q are bad", m.Bad())
		}
		m.is("it fails", of(one, q))
		m.stand("it fails", "x failed", "u off")
	}
}

func TestWhichUnitsRunAgainBehindAnUpgradeThatIsUndone(t *testing.T) {
	q := pkg("q", "1", "/q 1")
	for what, c := range map[string]struct {
		there  []arc.Pkg
		run    []string
		change dep.Change
		fails  string
		want   []string // from when files are moved back
		on     []string
	}{
		"the one that failed": {
			there: []arc.Pkg{pkg("p", "1", "/p 1", "unit u;file /p")}, run: []string{"u"},
			change: come(pkg("p", "2", "/p 2", "unit u;file /p")), fails: "u",
			want: []string{"u issued", "u started"}, on: []string{"u"},
		},
		"those that run with what came, which stop by the graph of then, and start by that of before": {
			there:  []arc.Pkg{pkg("p", "1", "/p 1", "unit a;file /p;after b", "unit b;file /p", "unit z;file /p;after a;after b")},
			run:    []string{"b", "a", "z"},
			change: come(pkg("p", "2", "/p 2", "unit a;file /p", "unit b;file /p;after a", "unit z;file /p;after a;after b")), fails: "z",
			want: []string{"b asked", "b stopped", "a asked", "a stopped", "b issued", "b started", "a issued", "a started", "z issued", "z started"},
			on:   []string{"a", "b", "z"},
		},
		"what leans on one of these by the graph of then": {
			there:  []arc.Pkg{pkg("p", "1", "/p 1", "unit a;file /p", "unit z;file /p;after a"), pkg("q", "1", "/q 1", "unit n;file /q")},
			run:    []string{"a", "n", "z"},
			change: dep.Change{Come: []arc.Pkg{pkg("p", "2", "/p 2", "unit a;file /p", "unit z;file /p;after a"), pkg("q", "2", "/q 1", "unit n;file /q;requires a")}}, fails: "z",
			want: []string{"n asked", "n stopped", "a asked", "a stopped", "a issued", "a started", "n issued", "n started", "z issued", "z started"},
			on:   []string{"a", "n", "z"},
		},
		"not what came with it": {
			there:  []arc.Pkg{pkg("p", "1", "/p 1", "unit u;file /p")},
			run:    []string{"u"},
			change: come(pkg("p", "2", "/n 2", "/p 2", "unit u;file /p;requires n", "unit n;file /n")), fails: "u",
			want: []string{"n asked", "n stopped", "u issued", "u started"},
			on:   []string{"u"},
		},
		"what was required ahead": {
			there:  []arc.Pkg{pkg("p", "1", "/p 1", "unit u;file /p;requires x"), pkg("q", "1", "/q 1", "unit x;file /q", "unit y;file /q")},
			run:    []string{"x", "u"},
			change: come(pkg("p", "2", "/p 2", "unit u;file /p")), fails: "u",
			want: []string{"u issued", "u started"},
			on:   []string{"u", "x"},
		},
		"those that were gone": {
			there:  []arc.Pkg{pkg("p", "1", "/p 1", "unit u;file /p", "unit v;file /q;after u"), q},
			run:    []string{"u", "v"},
			change: come(pkg("p", "2", "/p 2", "unit u;file /p")), fails: "u",
			want: []string{"u issued", "u started", "v issued", "v started"},
			on:   []string{"u", "v"},
		},
		"not those that want a reboot": {
			there:  []arc.Pkg{pkg("p", "1", "/p 1", "unit r;file /p;wants reboot", "unit u;file /p")},
			run:    []string{"r", "u"},
			change: come(pkg("p", "2", "/p 2", "unit r;file /p", "unit u;file /p")), fails: "u",
			want: []string{"u issued", "u started"},
			on:   []string{"r", "u"},
		},
		"what wants a reboot by now, as it didn't before": {
			there:  []arc.Pkg{pkg("p", "1", "/p 1", "unit r;file /p", "unit u;file /p;after r")},
			run:    []string{"r", "u"},
			change: come(pkg("p", "2", "/p 2", "unit r;file /p;wants reboot", "unit u;file /p;after r")), fails: "u",
			want: []string{"r asked", "r stopped", "r issued", "r started", "u issued", "u started"},
			on:   []string{"r", "u"},
		},
	} {
		m := on(t, c.there...)
		m.bring(c.run...)
		units := m.Graph().Names()
		m.begin(c.change)
		for range 200 {
			if phase, _ := m.Phase(); phase == txn.Undoing {
				break
			}
			if !m.Step() {
				m.settle(c.fails)
			}
		}
		m.in(what, txn.Undoing)
		m.Events()
		m.end()
		m.happened(what, c.want...)
		m.did(what, "began", "turned 1", "turned 2", "turned 3 20", "turned 4 20", "undone 20")
		m.is(what, of(c.there...))
		m.sums(what, c.there...)
		if got := m.In(mgr.On); !slices.Equal(got, c.on) {
			t.Errorf("%s: %q are on, not %q", what, got, c.on)
		}
		if len(m.Pending()) != 0 || len(m.Bad()) != 0 || !slices.Equal(m.Graph().Names(), units) {
			t.Errorf("%s: %q are pending, %q bad, the units are %q", what, m.Pending(), m.Bad(), m.Graph().Names())
		}
	}
}

// By the units of before what is required runs again, too, also if it didn't ahead.
func TestWhatIsRequiredRunsBehindAnUpgradeThatIsUndone(t *testing.T) {
	one := pkg("p", "1", "/p 1", "unit u;file /p;requires x")
	m := on(t, one, pkg("q", "1", "/q 1", "unit x;file /q;requires y", "unit y;file /q", "unit z;file /q"))
	m.bring("y", "x", "u")
	for _, n := range []string{"x", "y"} {
		m.Stop(n)
		m.Pick(m.Pid(n))
	}
	m.Events()
	m.begin(come(pkg("p", "2", "/p 2", "unit u;file /p")))
	m.end("u")
	m.happened("undone", "u asked", "u stopped", "u issued", "u broke", "y issued", "y started", "x issued", "x started", "u issued", "u broke")
	m.did("undone", "began", "turned 1", "turned 2", "turned 3 20", "turned 4 20", "lost u", "undone 20")
}

// Each phase has its own units: those of before are the manager's till all have stopped, and again from when all have stopped on the way back.
func TestTheUnitsOfEachPhase(t *testing.T) {
	one := pkg("p", "1", "/p 1", "unit a;file /p", "unit b;file /p;after a", "unit old;file /p;after b")
	two := pkg("p", "2", "/p 2", "unit a;file /p", "unit b;file /p;after a", "unit new;file /p")
	m := on(t, one)
	m.bring("a", "b", "old")
	m.begin(come(two))
	stage, turned := 0, false
	for range 200 {
		phase, under := m.Phase()
		if !under {
			break
		}
		_, old := m.Graph().Get("old")
		_, fresh := m.Graph().Get("new")
		starts := len(m.In(mgr.On, mgr.Stopping)) == 0 && m.State("a") == mgr.Starting
		switch {
		case phase < txn.Restarting && !old, phase == txn.Undoing && old:
			t.Errorf("in phase %d the units are %q", phase, m.Graph().Names())
		case phase == txn.Restarting && starts && old, phase == txn.Back && starts && !old:
			t.Errorf("in phase %d, while the first one starts, the units are %q", phase, m.Graph().Names())
		case phase == txn.Restarting && len(m.In(mgr.Stopping)) > 0 && !old, phase == txn.Back && len(m.In(mgr.Stopping)) > 0 && old:
			t.Errorf("in phase %d, while one stops, the units are %q", phase, m.Graph().Names())
		}
		if old == fresh {
			t.Errorf("the units are %q", m.Graph().Names())
		}
		if starts {
			stage++
		}
		turned = turned || phase == txn.Back
		if !m.Step() {
			m.settle("b")
		}
	}
	if stage < 2 || !turned {
		t.Errorf("seen were %d, %v", stage, turned)
	}
	m.did("undone", "began", "turned 1", "turned 2", "turned 3 20", "turned 4 20", "lost b", "undone 20")
	m.stand("undone", "a on", "b failed", "old on")
}

// On the way back, what is waited for is as it is on the way forth, and the one that is lost doesn't hold the next one up.
func TestWaitsOnTheWayBack(t *testing.T) {
	one, two := pair("a", "b", "c", "d")
	m := on(t, one)
	m.bring("a", "b", "c", "d")
	m.begin(come(two))
	for range 200 {
		if phase, _ := m.Phase(); phase == txn.Back {
			break
		}
		if !m.Step() {
			m.settle("d")
		}
	}
	m.Events()
	m.Deeds()
	m.stand("Back begins", "a on", "b on", "c on", "d failed")
	if m.goes() != 1 {
		t.Error("another number of steps than one till it waits")
	}
	m.happened("one is asked", "c asked")
	m.told("Fail", m.Fail("b"), api.OK)
	m.settle()
	if m.goes() != 1 {
		t.Error("another number of steps than one till it waits")
	}
	m.happened("another one fails", "b broke", "c stopped", "a asked")
	m.settle()
	if m.goes() != 1 {
		t.Error("another number of steps than one till it waits")
	}
	m.happened("the first one starts", "a stopped", "a issued")
	m.told("Stop", m.Stop("a"), api.OK)
	if m.goes() != 0 {
		t.Error("a step does something while one is stopping")
	}
	m.settle()
	m.Events()
	m.steps(1)
	m.did("users stopped it", "lost a")
	m.steps(1)
	m.happened("the next one starts", "b issued")
	m.told("Start", m.Start("c"), api.OK)
	m.told("Ready", m.Ready("b"), api.OK)
	m.told("Ready", m.Ready("c"), api.OK)
	m.steps(1)
	m.happened("the last one starts", "c issued", "b started", "c started", "d issued")
	m.told("Fail", m.Fail("d"), api.OK)
	m.steps(2)
	m.did("it fails", "lost d", "undone 20")
	if !slices.Equal(m.Bad(), []string{"a", "d"}) {
		t.Errorf("%q are bad", m.Bad())
	}
	m.is("undone", of(one))
}

// Of one that can't be started on the way back, as of one that fails, it is told at once; and one that requires it can't be.
func TestWhatCannotBeStartedIsLost(t *testing.T) {
	one := pkg("p", "1", "/p 1", "unit u;file /p;file /mine", "unit v;file /p;requires u", "unit w;file /p")
	two := pkg("p", "2", "/p 2", "unit u;file /p", "unit v;file /p;requires u", "unit w;file /p;after v")
	m := on(t, one)
	m.told("a user's file", m.vol.Do(create("/mine", nil)), api.OK)
	m.bring("u", "v", "w")
	m.begin(come(two))
	m.to(txn.Swapping)
	m.told("it is gone", m.vol.Do(tree.Op{Kind: tree.Unlink, Path: "/mine"}), api.OK)
	for range 200 {
		if phase, _ := m.Phase(); phase == txn.Undoing {
			break
		}
		if !m.Step() {
			m.settle("w")
		}
	}
	m.Deeds()
	m.end()
	m.did("undone", "turned 4 20", "lost u", "lost v", "undone 20")
	m.stand("undone", "u failed", "v off", "w on")
	if !slices.Equal(m.Bad(), []string{"u", "v"}) {
		t.Errorf("%q are bad", m.Bad())
	}
	m.is("undone", of(one))
}

// Where it turns round ahead of Restarting, what users started meanwhile with files that came runs anew with those of before, and nothing else is touched.
func TestTurnsRoundAheadOfRestarting(t *testing.T) {
	one := pkg("p", "1", "/p 1", "/z 1", "unit u;file /p", "unit v;file /z", "unit w;file /p")
	two := pkg("p", "2", "/p 2", "/z 2", "unit u;file /p", "unit v;file /z", "unit w;file /p")
	m := on(t, one)
	m.bring("u", "v")
	units := m.Graph()
	m.begin(come(two))
	m.to(txn.Swapping)
	m.steps(1)
	m.told("Start", m.Start("w"), api.OK)
	m.Events()
	m.told("what is laid aside goes", m.vol.Do(tree.Op{Kind: tree.Unlink, Path: swap.Stage + "/1"}), api.OK)
	for range 4 {
		if m.Graph() != units {
			t.Error("the units are others")
		}
		m.Step()
	}
	m.did("it turns round", "began", "turned 1", "turned 3 8", "turned 4 8")
	m.end()
	m.did("undone", "undone 8")
	m.happened("undone", "w asked", "w stopped", "w issued", "w started")
	m.stand("undone", "u on", "v on", "w on")
	m.is("undone", of(one))
}
