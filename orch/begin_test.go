package orch_test

import (
	"bytes"
	"fmt"
	"maps"
	"slices"
	"testing"

	"farrier/api"
	"farrier/arc"
	"farrier/dep"
	"farrier/orch"
	"farrier/swap"
	"farrier/tree"
	"farrier/txn"
)

func TestBegin(t *testing.T) {
	one := pkg("b", "1", "/b one", "unit u;file /b")
	m := on(t, one)
	m.bring("u")
	units := m.Graph()
	a, two := pkg("a", "1", "/bin/a one", "config /etc x"), pkg("c", "2", "/c two")
	m.begin(dep.Change{Come: []arc.Pkg{two, a}, Go: []string{"b"}})
	m.in("begun", txn.Staging)
	m.did("begun", "began")
	m.happened("begun")
	m.stand("begun", "u on")
	if m.Graph() != units {
		t.Error("the units are others")
	}
	want := txn.Txn{
		Moves: []txn.Move{{Kind: txn.Dir, Path: "/bin"}, {Kind: txn.Put, Path: "/bin/a"}, {Kind: txn.Put, Path: "/c"}, {Kind: txn.Put, Path: "/etc"}, {Kind: txn.Drop, Path: "/b"}},
		Come:  []string{"c", "a"}, Go: []string{"b"},
	}
	rows := map[string][]byte{"/var/db/b": row(one), "/var/new/a": row(a), "/var/new/c": row(two), swap.Txn: want.Pack()}
	if got := kept(m.vol.Tree); !maps.EqualFunc(got, rows, bytes.Equal) {
		t.Errorf("%q is kept, not %q", got, rows)
	}
	m.sums("begun", one)
	if !slices.Equal(m.Base().Names(), []string{"b"}) {
		t.Errorf("%q are there", m.Base().Names())
	}
}

func TestBeginTellsFaults(t *testing.T) {
	a := pkg("a", "2", "/a one", "unit u;file /a")
	needy := pkg("n", "1", "needs x", "unit broken")
	broken := pkg("z", "1", "/mine it", "unit broken")
	for what, c := range map[string]struct {
		change dep.Change
		want   dep.Fault
	}{
		"nothing":                     {dep.Change{}, dep.Fault{E: api.ErrArg}},
		"what isn't right":            {come(arc.Pkg{Name: "A"}), dep.Fault{E: api.ErrForm, Name: "A"}},
		"what is there":               {come(a), dep.Fault{E: api.ErrVersion, Name: "a", What: "2"}},
		"what isn't there":            {gone("b"), dep.Fault{E: api.ErrNone, Name: "b"}},
		"a need, ahead of a unit":     {come(needy), dep.Fault{E: api.ErrNeeds, Name: "n", What: "x"}},
		"a unit, ahead of a file":     {come(broken), dep.Fault{E: api.ErrNone, Name: "z"}},
		"a unit that is there":        {come(pkg("b", "1", "unit u;file /b")), dep.Fault{E: api.ErrTwice, Name: "u"}},
		"a file, in the users' place": {come(pkg("b", "1", "/mine it")), dep.Fault{E: api.ErrOwner, Name: "b", What: "/mine"}},
		"an older one":                {come(pkg("a", "1")), dep.Fault{E: api.ErrVersion, Name: "a", What: "2"}},
	} {
		m := on(t, a)
		m.told("the users' file", m.vol.Do(create("/mine", []byte("mine"))), api.OK)
		m.bring("u")
		was := m.vol.Dump()
		if f := m.Begin(c.change); f != c.want {
			t.Errorf("%s: %v is told, not %v", what, f, c.want)
		}
		if !slices.EqualFunc(m.vol.Dump(), was, bytes.Equal) {
			t.Errorf("%s: something was turned", what)
		}
		m.is(what, of(a))
		m.did(what)
		m.happened(what)
		m.stand(what, "u on")
	}
}

func TestBeginWhileOneIsUnderWay(t *testing.T) {
	m := on(t)
	m.begin(come(pkg("a", "1", "/a one", "unit u;file /a")))
	for {
		for what, c := range map[string]dep.Change{"nothing": {}, "what may": come(pkg("b", "1")), "what may not": gone("x")} {
			was := m.vol.Dump()
			if f := m.Begin(c); f != (dep.Fault{E: api.ErrBusy}) {
				t.Errorf("%s: %v is told", what, f)
			}
			if !slices.EqualFunc(m.vol.Dump(), was, bytes.Equal) {
				t.Errorf("%s: something was turned", what)
			}
		}
		m.Step()
		if _, under := m.Phase(); !under {
			break
		}
	}
	m.did("one alone", "began", "turned 1", "turned 2", "committed")
	m.is("one alone", of(pkg("a", "1", "/a one", "unit u;file /a")))
}

// spread is a package with so many files in a directory of its own.
func spread(name, version string, n int) arc.Pkg {
	p := pkg(name, version)
	for i := range n {
		p.Files = append(p.Files, arc.File{Path: fmt.Sprintf("/%s/%02d", name, i), Data: []byte(version)})
	}
	return p
}

func TestBeginOfTooMuch(t *testing.T) {
	// 40 moves are done, and one more isn't.
	for extra := range 2 {
		last := pkg("d", "1", "/d x")
		if extra == 1 {
			last = pkg("d", "1", "/d x", "/e x")
		}
		list := []arc.Pkg{spread("a", "1", 12), spread("b", "1", 12), spread("c", "1", 12), last}
		m := on(t)
		if f, want := m.Begin(come(list...)), (dep.Fault{E: []api.Errno{api.OK, api.ErrMany}[extra]}); f != want {
			t.Errorf("of %d moves more than 40 %v is told", extra, f)
		}
		if extra == 1 {
			m.is("too many moves", of())
			continue
		}
		m.end()
		m.is("40 moves", of(list...))
	}
	// 24 packages come, and go, and one more doesn't.
	var old []arc.Pkg
	for i := range 12 {
		old = append(old, pkg(fmt.Sprintf("old%02d", i), "1"))
	}
	for extra := range 2 {
		m := on(t, old...)
		var c dep.Change
		for i := range 12 + extra {
			c.Come = append(c.Come, pkg(fmt.Sprintf("new%02d", i), "1"))
		}
		for i := range 12 {
			c.Go = append(c.Go, fmt.Sprintf("old%02d", i))
		}
		if f, want := m.Begin(c), (dep.Fault{E: []api.Errno{api.OK, api.ErrMany}[extra]}); f != want {
			t.Errorf("of %d packages more than 24 %v is told", extra, f)
		}
		if extra == 1 {
			m.is("too many packages", of(old...))
			m.did("too many packages")
			continue
		}
		m.end()
		m.is("24 packages", of(c.Come...))
	}
}

func TestBeginWithoutRoom(t *testing.T) {
	m := on(t)
	m.told("much", m.vol.Do(
		create("/1", make([]byte, 3500)), create("/2", make([]byte, 3500)), create("/3", make([]byte, 3500)),
		create("/4", make([]byte, 3500)), create("/5", make([]byte, 3500)), create("/6", make([]byte, 2490))), api.OK)
	if f := m.Begin(come(pkg("a", "1", "/a one"))); f != (dep.Fault{E: api.ErrQuota}) {
		t.Errorf("%v is told", f)
	}
	m.is("no room", of())
	m.did("no room")
	m.told("less", m.vol.Do(tree.Op{Kind: tree.Unlink, Path: "/6"}), api.OK)
	m.begin(come(pkg("a", "1", "/a one")))
	m.end()
	m.is("room", of(pkg("a", "1", "/a one")))

	for i := 0; m.vol.Nodes() < api.MaxNodes; i++ {
		m.told("nodes", m.vol.Do(create(fmt.Sprintf("/x%d", i), nil)), api.OK)
	}
	if f := m.Begin(gone("a")); f != (dep.Fault{E: api.ErrFull}) {
		t.Errorf("of as many nodes as may be %v is told", f)
	}
	m.is("as many nodes as may be", of(pkg("a", "1", "/a one")))
}

func TestBeginWithoutPower(t *testing.T) {
	a := pkg("a", "1", "/a one")
	m := on(t)
	m.disk.Crash(0)
	if f := m.Begin(come(a, a)); f != (dep.Fault{E: api.ErrTwice, Name: "a"}) {
		t.Errorf("%v is told", f)
	}
	for range 2 {
		if f := m.Begin(come(a)); f != (dep.Fault{E: api.ErrDown}) {
			t.Errorf("%v is told", f)
		}
		m.idle("without power")
		m.did("without power")
		m.disk.On()
	}
	m.boot()
	m.is("without power", of())

	m.disk.Plan(1, 0)
	if f := m.Begin(come(a)); f != (dep.Fault{E: api.ErrDown}) {
		t.Errorf("as the power goes, %v is told", f)
	}
	m.idle("as the power goes")
	m.did("as the power goes")
}

// What was handed in may be turned as soon as an upgrade has begun.
func TestBeginKeepsNothingThatIsHandedIn(t *testing.T) {
	c := dep.Change{Come: []arc.Pkg{pkg("a", "2", "/a two", "config /b two", "needs c"), pkg("c", "1", "/c one", "unit u;file /c")}, Go: []string{"b"}}
	want := of(pkg("a", "2", "/a two", "config /b two", "needs c"), pkg("c", "1", "/c one", "unit u;file /c"))
	m := on(t, pkg("a", "1", "/a one"), pkg("b", "1"))
	m.begin(c)
	for i := range c.Come {
		for _, f := range c.Come[i].Files {
			copy(f.Data, "xxx")
		}
		clear(c.Come[i].Files)
		clear(c.Come[i].Needs)
		clear(c.Come[i].Units)
	}
	clear(c.Come)
	clear(c.Go)
	m.end()
	m.is("behind what was handed in being turned", want)
	m.sums("behind what was handed in being turned", pkg("", "", "/a two", "/b two", "/c one"))
}

func TestBeginTurnsNothingThatIsHandedIn(t *testing.T) {
	one := []arc.Pkg{pkg("a", "1", "/a one", "config /b two", "unit u;file /a"), pkg("b", "1", "needs a")}
	again := []arc.Pkg{pkg("a", "1", "/a one", "config /b two", "unit u;file /a"), pkg("b", "1", "needs a")}
	names := []string{"z", "y"}
	m := on(t, pkg("z", "1"), pkg("y", "1"))
	m.begin(dep.Change{Come: one, Go: names})
	m.end()
	if fmt.Sprint(one) != fmt.Sprint(again) || !slices.Equal(names, []string{"z", "y"}) {
		t.Errorf("what was handed in is %v, %q", one, names)
	}
}

func TestWhatIsToldIsNewMemory(t *testing.T) {
	a, b := pkg("a", "1", "/a one", "unit u;file /a", "unit v;file /a"), pkg("a", "2", "/a two", "unit u;file /a", "unit v;file /a")
	m := on(t, a)
	m.bring("u", "v")
	m.begin(come(b))
	m.end("u", "v")
	m.did("undone", "began", "turned 1", "turned 2", "turned 3 20", "turned 4 20", "lost u", "lost v", "undone 20")
	bad := m.Bad()
	bad[0] = "x"
	if got := append(m.Bad()[:1], "y"); got[0] != "u" || !slices.Equal(m.Bad(), []string{"u", "v"}) {
		t.Errorf("%q are bad", m.Bad())
	}
	m.begin(come(b))
	deeds := m.Deeds()
	if len(deeds) != 1 || deeds[0] != (orch.Event{}) {
		t.Errorf("%v is told", deeds)
	}
	m.Step()
	m.Step()
	deeds = append(deeds, orch.Event{Kind: 9})
	m.did("afresh", "turned 1")
	m.did("told already")
}

// Of what was lost only what was since the last upgrade began is told, also where none could begin since.
func TestBadIsOfTheLastUpgrade(t *testing.T) {
	one, two := pkg("a", "1", "/a one", "unit u;file /a"), pkg("a", "2", "/a two", "unit u;file /a")
	m := on(t, one)
	m.bring("u")
	m.begin(come(two))
	m.end("u")
	if !slices.Equal(m.Bad(), []string{"u"}) {
		t.Errorf("%q are bad", m.Bad())
	}
	m.Begin(come(one))
	m.Begin(dep.Change{})
	if !slices.Equal(m.Bad(), []string{"u"}) {
		t.Errorf("%q are bad behind what didn't begin", m.Bad())
	}
	m.begin(come(two))
	if len(m.Bad()) != 0 {
		t.Errorf("%q are bad behind what began", m.Bad())
	}
	m.end()
	if len(m.Bad()) != 0 {
		t.Errorf("%q are bad behind what is done", m.Bad())
	}
	m.boot()
	if len(m.Bad()) != 0 {
		t.Errorf("%q are bad behind Open", m.Bad())
	}
}
