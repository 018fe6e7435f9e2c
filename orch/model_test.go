package orch_test

import (
	"bytes"
	"fmt"
	"maps"
	"math/rand"
	"slices"
	"testing"

	"farrier/api"
	"farrier/arc"
	"farrier/base"
	"farrier/dep"
	"farrier/graph"
	"farrier/mgr"
	"farrier/orch"
	"farrier/swap"
	"farrier/tree"
	"farrier/txn"
	"farrier/unit"
)

var (
	allPkgs  = []string{"p", "q", "r", "s"}
	allUnits = []string{"a", "b", "c", "d", "e", "f"}
	allFiles = []string{"/bin/x", "/bin/y", "/etc/z", "/lib/deep/w", "/lib/v"}
)

// some is a few of a list, by chance.
func some(r *rand.Rand, list []string, odds int) []string {
	var got []string
	for _, s := range list {
		if r.Intn(odds) == 0 {
			got = append(got, s)
		}
	}
	return got
}

// drawUnit is a unit with whatever links, which are mostly such as may be.
func drawUnit(r *rand.Rand, i int) unit.Unit {
	u := unit.Unit{Name: allUnits[i], Retry: r.Intn(3) / 2}
	u.Files = some(r, allFiles, 3)
	if len(u.Files) == 0 {
		u.Files = []string{allFiles[r.Intn(len(allFiles))]}
	}
	u.Requires, u.After, u.PartOf = some(r, allUnits[:i], 4), some(r, allUnits[:i], 6), some(r, allUnits[:i], 8)
	u.Before = some(r, allUnits[i+1:], 8)
	if r.Intn(5) == 0 {
		u.Wants = []string{orch.Reboot}
	}
	if r.Intn(30) == 0 {
		u.Requires = append(u.Requires, allUnits[r.Intn(len(allUnits))])
	}
	u.Requires = slices.Compact(slices.Sorted(slices.Values(u.Requires)))
	return u
}

// drawPkg is a package of a version, with some of the files of its own and, seldom, others, and some units.
func drawPkg(r *rand.Rand, i, version int) arc.Pkg {
	p := arc.Pkg{Name: allPkgs[i], Version: fmt.Sprint(version)}
	for j, f := range allFiles {
		if (j%len(allPkgs) == i && r.Intn(6) > 0) || r.Intn(30) == 0 {
			// The bytes are often those that were there.
			p.Files = append(p.Files, arc.File{Path: f, Config: r.Intn(4) == 0, Data: fmt.Appendf(nil, "%s %d", p.Name, r.Intn(3))})
		}
	}
	for j := range allUnits {
		if (j%len(allPkgs) == i && r.Intn(6) > 0) || r.Intn(40) == 0 {
			p.Units = append(p.Units, drawUnit(r, j).Text())
		}
	}
	if r.Intn(12) == 0 {
		p.Needs = append(p.Needs, arc.Need{Name: allPkgs[r.Intn(len(allPkgs))]})
	}
	return p
}

// drawChange is packages that come, in versions that are higher and higher, and packages that go.
func drawChange(r *rand.Rand, version int) dep.Change {
	var c dep.Change
	for i, n := range allPkgs {
		switch r.Intn(5) {
		case 0, 1, 2:
			c.Come = append(c.Come, drawPkg(r, i, version))
		case 3:
			if r.Intn(3) == 0 {
				c.Go = append(c.Go, n)
			}
		}
	}
	return c
}

// outcome is what there is, if an upgrade is undone, or done.
type outcome struct {
	base  base.Base
	files map[string][]byte
	dirs  []string
}

// outcomes are those of a change, and the moves by which it comes.
func (m *machine) outcomes(c dep.Change) (was, now outcome) {
	was = outcome{m.Base(), files(m.vol.Tree), dirs(m.vol.Tree)}
	b, _ := dep.After(m.Base(), c)
	moves, _ := swap.Plan(m.vol.Tree, m.Base(), b, c.Come)
	t := m.vol.Clone()
	for i, v := range moves {
		data, _ := swap.Data(c.Come, v.Path)
		for _, ops := range [][]tree.Op{swap.Aside(i, v, data), swap.Do(t, i, v)} {
			// What is moved is what was laid aside by then.
			m.told("the model's move", t.Do(ops...), api.OK)
		}
	}
	return was, outcome{b, files(t), dirs(t)}
}

// at holds what there is against an outcome.
func (m *machine) at(what string, want outcome) {
	m.t.Helper()
	m.idle(what)
	if !base.Same(m.Base(), want.base) {
		m.t.Errorf("%s: %v are there, not %v", what, m.Base().Names(), want.base.Names())
	}
	if got := files(m.vol.Tree); !maps.EqualFunc(got, want.files, bytes.Equal) {
		m.t.Errorf("%s: the files are %q, not %q", what, got, want.files)
	}
	if got := dirs(m.vol.Tree); !slices.Equal(got, want.dirs) {
		m.t.Errorf("%s: the directories are %q, not %q", what, got, want.dirs)
	}
	rows := map[string][]byte{}
	for i, n := range want.base.Names() {
		rows["/var/db/"+n] = want.base.Pack()[i]
	}
	if got := kept(m.vol.Tree); !maps.EqualFunc(got, rows, bytes.Equal) {
		m.t.Errorf("%s: %q is kept, not %q", what, got, rows)
	}
	for _, i := range m.vol.Loose() {
		if m.vol.Held(i) == 0 {
			m.t.Errorf("%s: %d is loose", what, i)
		}
	}
	units, f := orch.Units(want.base)
	if f != (dep.Fault{}) || !slices.Equal(units.Names(), m.Graph().Names()) {
		m.t.Errorf("%s: the units are %q", what, m.Graph().Names())
	}
}

// play is what should be told of units in a phase in which they stop and start, as long as nobody else does anything.
type play struct {
	on      map[string]bool
	failing []string
	vol     *tree.Tree
	said    []string
}

// stop is units that stop; start is one that starts: whether it runs.
func (p *play) stop(names []string) {
	for _, n := range names {
		p.said = append(p.said, n+" asked", n+" stopped")
		delete(p.on, n)
	}
}

func (p *play) start(u unit.Unit) bool {
	for _, n := range u.Requires {
		if !p.on[n] {
			return false
		}
	}
	for _, f := range u.Files {
		if _, e := p.vol.Read(f); e != api.OK {
			p.said = append(p.said, u.Name+" broke")
			return false
		}
	}
	p.said = append(p.said, u.Name+" issued")
	if !slices.Contains(p.failing, u.Name) {
		p.said = append(p.said, u.Name+" started")
		p.on[u.Name] = true
		return true
	}
	for range u.Retry {
		p.said = append(p.said, u.Name+" issued")
	}
	p.said = append(p.said, u.Name+" broke")
	return false
}

// closed is some names, and all that a relation leads to from these.
func closed(names []string, all *graph.Graph, leads func(from, to unit.Unit) bool) []string {
	list := slices.DeleteFunc(slices.Clone(names), func(n string) bool { _, ok := all.Get(n); return !ok })
	for i := 0; i < len(list); i++ {
		from, _ := all.Get(list[i])
		for _, n := range all.Names() {
			if to, _ := all.Get(n); leads(from, to) && !slices.Contains(list, n) {
				list = append(list, n)
			}
		}
	}
	return list
}

// leans and requires are such relations.
func leans(on, u unit.Unit) bool {
	return slices.Contains(u.Requires, on.Name) || slices.Contains(u.PartOf, on.Name)
}

func requires(u, other unit.Unit) bool { return slices.Contains(u.Requires, other.Name) }

// stopping is the units that run and that are hit, or lean on what is hit, in the order in which they stop.
func (m *machine) stopping(g *graph.Graph, hit []string) []string {
	list := g.Order(closed(hit, g, leans)...)
	list = slices.DeleteFunc(list, func(n string) bool { s := m.State(n); return s != mgr.On && s != mgr.Starting })
	slices.Reverse(list)
	return list
}

// hitNow is the units that run with a file that doesn't stand any more where it did, and that don't want a reboot by some units.
func (m *machine) hitNow(before *graph.Graph) []string {
	var hit []string
	for _, n := range m.In(mgr.Starting, mgr.On, mgr.Stopping) {
		u, _ := before.Get(n)
		p, _ := m.Get(m.Pid(n))
		stale := false
		for i, at := range m.Has(n) {
			now, _ := m.vol.Find(at)
			stale = stale || now != p.Maps[i]
		}
		if stale && !slices.Contains(u.Wants, orch.Reboot) {
			hit = append(hit, n)
		}
	}
	return hit
}

// calm plays an upgrade to its end, while nobody but the upgrade does anything with units; some fail whenever they start.
func (m *machine) calm(c dep.Change, failing []string) {
	m.t.Helper()
	from := m.Graph()
	to, _ := orch.Units(after(m.Base(), c))
	ran := m.In(mgr.On)
	was, now := m.outcomes(c)
	m.begin(c)
	m.to(txn.Restarting)
	m.Events()

	p := &play{on: map[string]bool{}, failing: failing, vol: m.vol.Clone()}
	for _, n := range ran {
		p.on[n] = true
	}
	hit := m.hitNow(from)
	for _, n := range ran {
		if _, there := to.Get(n); !there {
			hit = append(hit, n)
		}
	}
	stop := m.stopping(from, hit)
	p.stop(stop)
	done := true
	for _, n := range to.Order(closed(stop, to, requires)...) {
		u, _ := to.Get(n)
		if done = p.on[n] || p.start(u); !done {
			break
		}
	}
	for range 1000 {
		if phase, under := m.Phase(); !under || phase != txn.Restarting {
			break
		}
		if !m.Step() {
			m.settle(failing...)
		}
	}
	m.happened("Restarting", p.said...)
	if done {
		m.did("done", "began", "turned 1", "turned 2", "committed")
		m.at("done", now)
		for _, n := range m.Pending() {
			if u, _ := from.Get(n); !slices.Contains(u.Wants, orch.Reboot) {
				m.t.Errorf("%s is pending", n)
			}
		}
		return
	}
	m.did("it turns round", "began", "turned 1", "turned 2", "turned 3 20")
	m.to(txn.Back)
	p.vol, p.said = m.vol.Clone(), nil
	again := m.stopping(to, m.hitNow(from))
	p.stop(again)
	var lost []string
	for _, n := range from.Order(closed(slices.Concat(stop, again), from, requires)...) {
		if u, _ := from.Get(n); !p.on[n] && !p.start(u) {
			lost = append(lost, n)
		}
	}
	m.end(failing...)
	m.happened("Back", p.said...)
	want := []string{"turned 4 20"}
	for _, n := range lost {
		want = append(want, "lost "+n)
	}
	m.did("undone", append(want, "undone 20")...)
	if !slices.Equal(m.Bad(), lost) {
		m.t.Errorf("%q are bad, not %q", m.Bad(), lost)
	}
	m.at("undone", was)
	for _, n := range ran {
		if m.State(n) != mgr.On && !slices.Contains(lost, n) {
			m.t.Errorf("%s ran, and is neither on nor lost", n)
		}
	}
}

// after is the packages that are there behind a change.
func after(b base.Base, c dep.Change) base.Base {
	now, _ := dep.After(b, c)
	return now
}

// may tells whether a change may be done, where there is room.
func (m *machine) may(c dep.Change) bool {
	now, f := dep.After(m.Base(), c)
	if f != (dep.Fault{}) {
		return false
	}
	if _, f = orch.Units(now); f != (dep.Fault{}) {
		return false
	}
	_, f = swap.Plan(m.vol.Tree, m.Base(), now, c.Come)
	return f == (dep.Fault{})
}

// runSome lets some units run, as far as they can.
func (m *machine) runSome(r *rand.Rand) {
	for range 2 {
		for _, n := range m.Graph().Names() {
			if r.Intn(4) > 0 && m.Start(n) == api.OK {
				m.Ready(n)
			}
		}
	}
	for _, n := range m.In(mgr.Failed) {
		m.Stop(n)
	}
	m.Events()
}

func TestUpgradesAmongUnitsThatFail(t *testing.T) {
	r := rand.New(rand.NewSource(14))
	told := map[string]int{}
	for range 400 {
		m := fresh(t)
		for version := 1; version < 12; version++ {
			c := drawChange(r, version)
			if !m.may(c) {
				told["refused"]++
				continue
			}
			m.runSome(r)
			m.calm(c, some(r, allUnits, 1+r.Intn(8)))
			told[fmt.Sprint(len(m.Bad()))]++
			if t.Failed() {
				return
			}
		}
	}
	if told["refused"] < 100 || told["0"] < 100 || told["1"] < 20 || told["2"] < 20 {
		t.Errorf("what was played is too little: %v", told)
	}
}

// meddle is what users do with some unit.
func (m *machine) meddle(r *rand.Rand) {
	n := allUnits[r.Intn(len(allUnits))]
	switch r.Intn(6) {
	case 0, 1:
		m.Start(n)
	case 2:
		m.Stop(n)
	case 3:
		m.Fail(n)
	case 4:
		m.Ready(n)
	case 5:
		m.Pick(m.Pid(n))
	}
}

// Whatever users do with units meanwhile: each upgrade comes to its end, and all is as it makes it, or as it was.
func TestUpgradesAmongUsers(t *testing.T) {
	r := rand.New(rand.NewSource(20))
	told := map[string]int{}
	for range 400 {
		m := fresh(t)
		for version := 1; version < 10; version++ {
			c := drawChange(r, version)
			if !m.may(c) {
				continue
			}
			m.runSome(r)
			was, now := m.outcomes(c)
			m.Deeds()
			m.begin(c)
			for i := 0; ; i++ {
				if _, under := m.Phase(); !under {
					break
				}
				if i > 3000 {
					t.Fatal("it comes to no end")
				}
				for range r.Intn(4) {
					m.meddle(r)
				}
				if !m.Step() {
					m.settle(some(r, allUnits, 3)...)
				}
			}
			deeds := m.Deeds()
			var lost []string
			for _, e := range deeds {
				if e.Kind == orch.Lost {
					lost = append(lost, e.Unit)
				}
			}
			if !slices.Equal(m.Bad(), lost) {
				t.Errorf("%q are bad, and %q lost", m.Bad(), lost)
			}
			last := deeds[len(deeds)-1]
			told[said(last)]++
			if last == (orch.Event{Kind: orch.Committed}) {
				m.at("done", now)
			} else {
				m.at("undone", was)
			}
			if t.Failed() {
				return
			}
		}
	}
	if told["committed"] < 100 || told["undone 20"] < 50 {
		t.Errorf("what was played is too little: %v", told)
	}
}

// Whenever the power goes, also while what lies there is opened: all is as it was, or as the upgrade makes it; and what is opened twice is the same.
func TestUpgradesAsThePowerGoes(t *testing.T) {
	r := rand.New(rand.NewSource(3))
	told := map[string]int{}
	for range 600 {
		m := fresh(t)
		for version := 1; version < 6; version++ {
			c := drawChange(r, version)
			if !m.may(c) {
				continue
			}
			m.runSome(r)
			was, now := m.outcomes(c)
			m.Deeds()
			m.disk.Plan(1+r.Intn(160), r.Uint64())
			f := m.Begin(c)
			for m.Step() || !m.disk.Down() {
				if _, under := m.Phase(); !under {
					break
				}
				m.settle(some(r, allUnits, 5)...)
			}
			done := slices.Contains(m.Deeds(), orch.Event{Kind: orch.Committed})
			for range r.Intn(4) {
				// Also while it is opened the power goes.
				m.disk.On()
				m.disk.Plan(1+r.Intn(12), r.Uint64())
				if m.open() == api.ErrDown {
					told["down while it is opened"]++
				}
			}
			m.disk.Crash(r.Uint64())
			m.boot()
			switch {
			case done:
				told["done"]++
				m.at("done ahead of the power going", now)
			case base.Same(m.Base(), now.base):
				told["finished"]++
				m.at("finished", now)
			default:
				told["undone"]++
				m.at("undone", was)
			}
			dump := m.vol.Dump()
			m.boot()
			if !slices.EqualFunc(m.vol.Dump(), dump, bytes.Equal) {
				t.Error("opened twice, something else lies there")
			}
			if t.Failed() {
				t.Fatalf("%v", f)
			}
		}
	}
	for _, what := range []string{"done", "finished", "undone", "down while it is opened"} {
		if told[what] < 10 {
			t.Errorf("what was played is too little: %v", told)
		}
	}
}
