package orch_test

import (
	"bytes"
	"maps"
	"slices"
	"strconv"
	"testing"

	"farrier/api"
	"farrier/arc"
	"farrier/dep"
	"farrier/swap"
	"farrier/tree"
	"farrier/txn"
)

// Step by step, what is kept, and what stands where, is held against what the chapter says.
func TestEachStepOfAnUpgrade(t *testing.T) {
	one, two := pkg("a", "1", "/f 1", "/g 1", "/h 1"), pkg("a", "2", "/d/e 2", "/f 2", "/g 1", "config /i 2")
	m := on(t, one)
	m.begin(come(two))
	m.did("begun", "began")
	up := m.upgrade()
	moves := []txn.Move{{Kind: txn.Dir, Path: "/d"}, {Kind: txn.Put, Path: "/d/e"}, {Kind: txn.Put, Path: "/f"}, {Kind: txn.Put, Path: "/i"}, {Kind: txn.Drop, Path: "/h"}}
	if !slices.Equal(up.Moves, moves) {
		t.Fatalf("the moves are %v", up.Moves)
	}
	aside := map[int]string{1: "2", 2: "2", 3: "2"}
	at := func(phase, n int) {
		t.Helper()
		m.in("kept", phase)
		now := m.upgrade()
		if now.Phase != phase || now.At != n || !slices.Equal(now.Moves, moves) || !slices.Equal(now.Come, []string{"a"}) || len(now.Go) != 0 {
			t.Errorf("%v is kept, not phase %d with %d", now, phase, n)
		}
	}
	laid := func(dir string, want map[string]string) {
		t.Helper()
		got := map[string]string{}
		for p, b := range under(m.vol.Tree, dir, map[string][]byte{}) {
			got[p[len(dir)+1:]] = string(b)
		}
		if !maps.Equal(got, want) {
			t.Errorf("in %s %q is laid, not %q", dir, got, want)
		}
	}
	at(txn.Staging, 0)
	want := map[string]string{}
	for i := range moves {
		m.steps(1)
		at(txn.Staging, i+1)
		if b, ok := aside[i]; ok {
			want[strconv.Itoa(i)] = b
		}
		laid(swap.Stage, want)
		laid(swap.Old, nil)
		m.sums("laid aside", one)
		m.did("laid aside")
	}
	m.steps(1)
	at(txn.Swapping, 0)
	m.did("all laid aside", "turned 1")
	m.sums("all laid aside", one)
	laid(swap.Stage, want)
	old := map[string]string{}
	for i, list := range [][]string{
		{"/f 1", "/g 1", "/h 1"}, {"/d/e 2", "/f 1", "/g 1", "/h 1"}, {"/d/e 2", "/f 2", "/g 1", "/h 1"}, {"/d/e 2", "/f 2", "/g 1", "/h 1", "/i 2"}, {"/d/e 2", "/f 2", "/g 1", "/i 2"},
	} {
		m.steps(1)
		at(txn.Swapping, i+1)
		if !m.vol.Dir("/d") {
			t.Error("the directory didn't come")
		}
		m.sums("moved", pkg("", "", list...))
		delete(want, strconv.Itoa(i))
		if i == 2 || i == 4 {
			old[strconv.Itoa(i)] = "1"
		}
		laid(swap.Stage, want)
		laid(swap.Old, old)
		m.did("moved")
	}
	m.steps(1)
	at(txn.Restarting, 5)
	m.did("all moved", "turned 2")
	laid(swap.New, map[string]string{"a": string(row(two))})
	laid(swap.Db, map[string]string{"a": string(row(one))})
	m.steps(1)
	m.is("done", of(two))
	m.did("done", "committed")
	m.sums("done", two)
	m.happened("done")
}

// An upgrade of so many moves has as many steps twice, and one for each phase behind the first, where no unit runs.
func TestHowManyStepsThereAre(t *testing.T) {
	for n := range 13 {
		m := on(t)
		p := pkg("a", "1")
		for i := range n {
			p.Files = append(p.Files, arc.File{Path: "/" + string(rune('a'+i))})
		}
		m.begin(come(p))
		if got := m.goes(); got != 2*n+3 {
			t.Errorf("an upgrade of %d moves has %d steps", n, got)
		}
		m.is("done", of(p))
	}
}

func TestPackagesComeAndGo(t *testing.T) {
	a, b, c := pkg("a", "1", "/x/a one"), pkg("b", "1", "/x/b one", "needs a"), pkg("a", "2", "/x/b two", "/y two")
	m := on(t, a, b)
	m.begin(dep.Change{Come: []arc.Pkg{c}, Go: []string{"b"}})
	m.end()
	m.is("one comes, one goes", of(c))
	m.sums("one comes, one goes", c)
	m.begin(gone("a"))
	m.end()
	m.is("all go", of())
	m.sums("all go")
	m.did("both", "began", "turned 1", "turned 2", "committed", "began", "turned 1", "turned 2", "committed")
	m.begin(come(a))
	m.end()
	m.is("it comes again", of(a))
	m.sums("it comes again", a)
}

// What users turned stays, and what the new package says of it is kept.
func TestUsersFiles(t *testing.T) {
	one, two := pkg("a", "1", "config /etc/x one", "config /etc/y one"), pkg("a", "2", "config /etc/x two", "config /etc/y two")
	m := on(t, one)
	m.told("a turn", m.vol.Do(tree.Op{Kind: tree.Write, Path: "/etc/x", Data: []byte("mine")}), api.OK)
	m.begin(come(two))
	m.end()
	m.is("the next one", of(two))
	m.sums("the next one", pkg("", "", "/etc/x mine", "/etc/y two"))
}

func TestTurnsRoundInStaging(t *testing.T) {
	one, two := pkg("a", "1", "/a one", "/b one"), pkg("a", "2", "/a two", "/b "+string(make([]byte, 500)))
	m := sized(t, sectors, 600)
	m.begin(come(one))
	m.end()
	m.did("one", "began", "turned 1", "turned 2", "committed")
	was, ids := files(m.vol.Tree), numbers(m.vol.Tree)
	m.begin(come(two))
	m.steps(1)
	if up := m.upgrade(); up.Phase != txn.Staging || up.At != 1 {
		t.Errorf("%v is kept", up)
	}
	m.steps(1)
	m.in("no room", txn.Undoing)
	if up := m.upgrade(); up.Phase != txn.Undoing || up.At != 0 {
		t.Errorf("%v is kept", up)
	}
	m.did("no room", "began", "turned 3 13")
	m.steps(1)
	m.in("nothing to undo", txn.Back)
	if up := m.upgrade(); up.Phase != txn.Back || up.At != 0 {
		t.Errorf("%v is kept", up)
	}
	m.did("nothing to undo", "turned 4 13")
	m.steps(1)
	m.did("undone", "undone 13")
	m.is("undone", of(one))
	if got := files(m.vol.Tree); !maps.EqualFunc(got, was, bytes.Equal) || !maps.Equal(numbers(m.vol.Tree), ids) {
		t.Errorf("%q, %v are there, not %q, %v", got, numbers(m.vol.Tree), was, ids)
	}
	// The error is told of no later one.
	m.begin(come(pkg("b", "1", "/c one")))
	m.end()
	m.did("the next one", "began", "turned 1", "turned 2", "committed")
}

// hinder lets something stand in the way of what an upgrade does in a phase, behind so many of its steps.
type hinder struct {
	phase, steps int
	ops          []tree.Op
	back         []tree.Op // what takes it out of the way again
	want         []string
}

func TestTurnsRoundByEachError(t *testing.T) {
	one, two := pkg("a", "1", "/a 1", "/z 1"), pkg("a", "2", "/a 2", "/b/c 2", "/z 2")
	for what, h := range map[string]hinder{
		"a directory in the place of one": {txn.Swapping, 1, []tree.Op{mkdir("/b")}, []tree.Op{{Kind: tree.Rmdir, Path: "/b"}},
			[]string{"turned 3 9", "turned 4 9", "undone 9"}},
		"a file in the place of one": {txn.Swapping, 0, []tree.Op{create("/b", nil)}, []tree.Op{{Kind: tree.Unlink, Path: "/b"}},
			[]string{"turned 3 9", "turned 4 9", "undone 9"}},
		"a directory in the place of a file": {txn.Swapping, 2, []tree.Op{mkdir("/b/c")}, []tree.Op{{Kind: tree.Rmdir, Path: "/b/c"}},
			[]string{"turned 3 10", "turned 4 10", "undone 10"}},
		"nothing laid aside": {txn.Swapping, 3, []tree.Op{{Kind: tree.Unlink, Path: "/var/stage/3"}}, nil,
			[]string{"turned 3 8", "turned 4 8", "undone 8"}},
		"something laid aside already": {txn.Staging, 2, []tree.Op{create("/var/stage/3", nil)}, nil,
			[]string{"turned 3 9", "turned 4 9", "undone 9"}},
		"a directory for the package": {txn.Restarting, 0, []tree.Op{{Kind: tree.Unlink, Path: "/var/db/a"}, mkdir("/var/db/a")}, []tree.Op{{Kind: tree.Rmdir, Path: "/var/db/a"}, create("/var/db/a", row(one))},
			[]string{"turned 3 10", "turned 4 10", "undone 10"}},
		"no row": {txn.Restarting, 0, []tree.Op{{Kind: tree.Unlink, Path: "/var/new/a"}}, nil,
			[]string{"turned 3 8", "turned 4 8", "undone 8"}},
	} {
		m := on(t, one)
		ids := numbers(m.vol.Tree)
		m.begin(come(two))
		m.to(h.phase)
		m.steps(h.steps)
		m.Deeds()
		was := m.upgrade()
		m.told(what, m.vol.Do(h.ops...), api.OK)
		for i := 0; ; i++ {
			m.steps(1)
			if phase, _ := m.Phase(); phase == txn.Undoing {
				break
			}
			if i > 3 {
				t.Fatalf("%s: it doesn't turn round", what)
			}
			was = m.upgrade()
		}
		moved := was.At
		if h.phase == txn.Staging {
			moved = 0
		}
		for n := moved; n >= 0; n-- {
			if up := m.upgrade(); up.Phase != txn.Undoing || up.At != n {
				t.Errorf("%s: %v is kept, where %d are moved", what, up, n)
			}
			m.in(what, txn.Undoing)
			if n == moved && len(h.back) > 0 {
				m.told(what, m.vol.Do(h.back...), api.OK)
			}
			m.steps(1)
		}
		m.in(what, txn.Back)
		m.steps(1)
		m.did(what, h.want...)
		m.is(what, of(one))
		m.sums(what, one)
		if got := numbers(m.vol.Tree); !maps.Equal(got, ids) {
			t.Errorf("%s: the files' numbers are %v, not %v", what, got, ids)
		}
	}
}

// Where too many nodes would come by a directory, it turns round.
func TestTurnsRoundWhereThereAreTooManyNodes(t *testing.T) {
	for free := range 10 {
		m := on(t, pkg("a", "1", "/a 1"))
		for i := 0; m.vol.Nodes() < api.MaxNodes-free; i++ {
			m.told("nodes", m.vol.Do(create("/x"+strconv.Itoa(i), nil)), api.OK)
		}
		was := files(m.vol.Tree)
		two := pkg("a", "2", "/a 2", "/b/c 2", "/d/e 2")
		// The upgrade and the row are nodes; then come three files, and two directories.
		f := m.Begin(come(two))
		if want := free < 2; want != (f == dep.Fault{E: api.ErrFull}) {
			t.Errorf("with room for %d nodes %v is told", free, f)
		}
		m.end()
		switch {
		case free < 2:
			m.did("no room")
		case free < 5:
			m.did("no room for what is laid aside", "began", "turned 3 7", "turned 4 7", "undone 7")
		case free < 7:
			m.did("no room for directories", "began", "turned 1", "turned 3 7", "turned 4 7", "undone 7")
		default:
			m.did("room", "began", "turned 1", "turned 2", "committed")
			m.is("room", of(two))
			continue
		}
		m.is("no room", of(pkg("a", "1", "/a 1")))
		if got := files(m.vol.Tree); !maps.EqualFunc(got, was, bytes.Equal) {
			t.Errorf("with room for %d nodes the files are others", free)
		}
	}
}

// However little room there is on a disk, and for bytes, each upgrade comes to its end.
func TestEachUpgradeEndsWithLittleRoom(t *testing.T) {
	one := pkg("a", "1", "/bin/a "+string(make([]byte, 90)), "/long/name/of/f x", "unit u;file /bin/a")
	two := pkg("a", "2", "/bin/a "+string(make([]byte, 120)), "/other/g "+string(make([]byte, 60)), "unit u;file /bin/a;retry 1", "unit v;file /other/g")
	seen := map[string]int{}
	for size := 10; size < 60; size++ {
		for _, quota := range []int{300, 400, 500, 600, 700, 2000} {
			for _, fails := range [][]string{nil, {"u"}} {
				m := sized(t, size, quota)
				if m.Begin(come(one)) != (dep.Fault{}) {
					continue
				}
				m.end()
				if m.Base().Names() == nil {
					continue
				}
				m.bring("u")
				m.Deeds()
				was, ids := files(m.vol.Tree), numbers(m.vol.Tree)
				f := m.Begin(come(two))
				seen[strconv.Itoa(int(f.E))]++
				m.end(fails...)
				deeds := m.Deeds()
				if f == (dep.Fault{}) {
					seen[said(deeds[len(deeds)-1])]++
				}
				if v, _ := m.Base().Get("a"); v.Version == "2" {
					m.is("done", of(two))
					m.sums("done", two)
				} else {
					m.is("undone", of(one))
					if got := files(m.vol.Tree); !maps.EqualFunc(got, was, bytes.Equal) || !maps.Equal(numbers(m.vol.Tree), ids) {
						t.Errorf("with %d sectors, and room for %d bytes, the files are others", size, quota)
					}
					if len(fails) == 0 {
						m.stand("undone", "u on", "v off")
					}
				}
			}
		}
	}
	for _, what := range []string{"0", "7", "13", "committed", "undone 7", "undone 13", "undone 20"} {
		if seen[what] == 0 {
			t.Errorf("%s was never told: %v", what, seen)
		}
	}
}

func TestStepWithoutPower(t *testing.T) {
	one, two := pkg("a", "1", "/a 1", "/b 1", "unit u;file /a"), pkg("a", "2", "/a 2", "/b 2", "unit u;file /a")
	for n := range 40 {
		m := on(t, one)
		m.bring("u")
		m.begin(come(two))
		for range n {
			if !m.Step() {
				m.settle("u")
			}
		}
		phase, under := m.Phase()
		if !under {
			return
		}
		m.Deeds()
		m.Events()
		m.disk.Crash(0)
		// Also when there is power again, nothing is done by one under whom it went.
		for range 3 {
			if m.Step() {
				t.Errorf("in phase %d a step does something without power", phase)
			}
			m.in("without power", phase)
			m.did("without power")
			m.happened("without power")
			m.disk.On()
		}
	}
	t.Error("it comes to no end")
}

// As the power goes in a step, nothing is told by it, and what is opened then is one or the other.
func TestPowerGoesInEachStep(t *testing.T) {
	one, two := pkg("a", "1", "/a 1", "/b 1", "unit u;file /a"), pkg("a", "2", "/a 2", "/b 2", "/c/d 2", "unit u;file /a")
	for _, fails := range []bool{false, true} {
		for n := 1; ; n++ {
			if n > 400 {
				t.Fatal("it comes to no end")
			}
			m := on(t, one)
			m.bring("u")
			m.disk.Plan(n, uint64(n)*0x9E3779B97F4A7C15)
			if f := m.Begin(come(two)); f.E == api.ErrDown {
				m.idle("as the power goes in Begin")
				m.boot()
				m.is("as the power goes in Begin", of(one))
				continue
			}
			down := false
			for range 100 {
				was := m.upgrade()
				m.Deeds()
				stepped := m.Step()
				if down = m.disk.Down(); down {
					if stepped {
						t.Errorf("write %d: the step in which the power goes did something", n)
					}
					if phase, under := m.Phase(); !under || phase != was.Phase {
						t.Errorf("write %d: the phase is %d, %v", n, phase, under)
					}
					m.did("as the power goes")
					break
				}
				if _, under := m.Phase(); !under {
					break
				}
				if !stepped && fails {
					m.settle("u")
				} else if !stepped {
					m.settle()
				}
			}
			if !down {
				break
			}
			m.boot()
			if e, _ := m.Base().Get("a"); e.Version == "2" {
				m.is("done", of(two))
				m.sums("done", two)
				if deeds := m.Deeds(); len(deeds) > 1 || len(deeds) == 1 && said(deeds[0]) != "committed" {
					t.Errorf("%v is told", deeds)
				}
			} else {
				m.is("undone", of(one))
				m.sums("undone", one)
				if deeds := m.Deeds(); len(deeds) > 1 || len(deeds) == 1 && said(deeds[0]) != "undone 0" {
					t.Errorf("%v is told", deeds)
				}
			}
		}
	}
}
