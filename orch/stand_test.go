package orch_test

import (
	"bytes"
	"fmt"
	"slices"
	"strings"
	"testing"

	"farrier/api"
	"farrier/arc"
	"farrier/base"
	"farrier/dep"
	"farrier/disk"
	"farrier/mgr"
	"farrier/orch"
	"farrier/path"
	"farrier/proc"
	"farrier/swap"
	"farrier/tree"
	"farrier/txn"
	"farrier/vol"
)

// pkg is a package with parts: "/path bytes" is a file, "config /path bytes" one that is the users' to turn, "needs name" a need, and "unit name;line;line" a unit's text.
func pkg(name, version string, parts ...string) arc.Pkg {
	p := arc.Pkg{Name: name, Version: version}
	for _, part := range parts {
		word, rest, _ := strings.Cut(part, " ")
		switch {
		case word == "needs":
			p.Needs = append(p.Needs, arc.Need{Name: rest})
		case word == "unit":
			p.Units = append(p.Units, strings.ReplaceAll(part, ";", "\n"))
		case word == "config":
			at, data, _ := strings.Cut(rest, " ")
			p.Files = append(p.Files, arc.File{Path: at, Config: true, Data: []byte(data)})
		default:
			p.Files = append(p.Files, arc.File{Path: word, Data: []byte(rest)})
		}
	}
	return p
}

// come and gone are changes.
func come(list ...arc.Pkg) dep.Change { return dep.Change{Come: list} }

func gone(names ...string) dep.Change { return dep.Change{Go: names} }

// of is the packages that are there.
func of(list ...arc.Pkg) base.Base {
	var b base.Base
	for _, p := range list {
		b = b.With(base.Of(p))
	}
	return b
}

// machine is what lies on a disk, and what runs with it.
type machine struct {
	*orch.Orch
	t     *testing.T
	disk  *disk.Disk
	vol   *vol.Vol
	quota int
}

const (
	sectors = 2000
	quota   = 20000
)

// fresh is a machine with a new disk; on is one on which some packages came, and nothing runs.
func fresh(t *testing.T) *machine { return sized(t, sectors, quota) }

func on(t *testing.T, list ...arc.Pkg) *machine {
	t.Helper()
	m := fresh(t)
	if len(list) > 0 {
		m.begin(come(list...))
		m.end()
		m.is("what came at first", of(list...))
	}
	m.Events()
	m.Deeds()
	return m
}

// sized is one with a new disk of so many sectors, and with room for so many bytes.
func sized(t *testing.T, sectors, quota int) *machine {
	t.Helper()
	m := &machine{t: t, disk: disk.New(sectors), quota: quota}
	m.boot()
	return m
}

// boot opens what lies on the disk, which should go well.
func (m *machine) boot() {
	m.t.Helper()
	if e := m.open(); e != api.OK {
		m.t.Fatalf("Open tells %d", e)
	}
}

// open opens what lies on the disk; by an error the machine is as it was.
func (m *machine) open() api.Errno {
	m.t.Helper()
	m.disk.On()
	v, e := vol.Open(m.disk, m.quota)
	if e != api.OK {
		return e
	}
	o, e := orch.Open(v, mgr.New(proc.New(v)))
	if (o != nil) != (e == api.OK) {
		m.t.Fatalf("Open tells %v, %d", o, e)
	}
	if e == api.OK {
		m.vol, m.Orch = v, o
	}
	return e
}

// begin lets an upgrade begin, which should go well.
func (m *machine) begin(c dep.Change) {
	m.t.Helper()
	if f := m.Begin(c); f != (dep.Fault{}) {
		m.t.Fatalf("Begin tells %v", f)
	}
}

// bring lets units run, one by one.
func (m *machine) bring(names ...string) {
	m.t.Helper()
	for _, n := range names {
		m.told("Start of "+n, m.Start(n), api.OK)
		m.told("Ready of "+n, m.Ready(n), api.OK)
	}
	m.Events()
}

// steps makes so many steps, each of which should do something.
func (m *machine) steps(n int) {
	m.t.Helper()
	for i := range n {
		if !m.Step() {
			m.t.Fatalf("step %d of %d does nothing", i+1, n)
		}
	}
}

// to goes on till a phase begins.
func (m *machine) to(phase int) {
	m.t.Helper()
	for {
		if at, under := m.Phase(); !under || at == phase {
			break
		}
		if !m.Step() {
			m.t.Fatalf("a step on the way to phase %d does nothing", phase)
		}
	}
	m.in("on the way", phase)
}

// goes goes on till nothing is done: how many steps did something.
func (m *machine) goes() int {
	m.t.Helper()
	for n := range 1000 {
		if !m.Step() {
			return n
		}
	}
	m.t.Fatal("it goes on without end")
	return 0
}

// end goes on till no upgrade is under way: what is asked to stop stops, what starts comes to run, but for some units, which fail whenever they should.
func (m *machine) end(failing ...string) {
	m.t.Helper()
	for range 1000 {
		if _, under := m.Phase(); !under {
			return
		}
		if !m.Step() {
			m.settle(failing...)
		}
	}
	m.t.Fatal("it comes to no end")
}

// settle lets each unit that is starting run, but for some, which fail, and each that is stopping end.
func (m *machine) settle(failing ...string) {
	for _, n := range m.In(mgr.Starting) {
		if slices.Contains(failing, n) {
			m.Fail(n)
		} else {
			m.Ready(n)
		}
	}
	for _, n := range m.In(mgr.Stopping) {
		m.Pick(m.Pid(n))
	}
}

// told holds an error against the one that it should be.
func (m *machine) told(what string, got, want api.Errno) {
	m.t.Helper()
	if got != want {
		m.t.Errorf("%s tells %d, not %d", what, got, want)
	}
}

// in holds the phase against what it should be; idle says that no upgrade should be under way.
func (m *machine) in(what string, want int) {
	m.t.Helper()
	if got, under := m.Phase(); got != want || !under {
		m.t.Errorf("%s: the phase is %d, %v, not %d", what, got, under, want)
	}
}

func (m *machine) idle(what string) {
	m.t.Helper()
	if got, under := m.Phase(); got != 0 || under {
		m.t.Errorf("%s: the phase is %d, %v", what, got, under)
	}
	if m.Step() {
		m.t.Errorf("%s: a step does something, with no upgrade", what)
	}
}

// is holds what there is, where no upgrade is under way, against the packages that should be there: nothing is laid aside, nothing is loose but what is held, and each of their files stands at its path.
func (m *machine) is(what string, want base.Base) {
	m.t.Helper()
	m.idle(what)
	if !base.Same(m.Base(), want) {
		m.t.Errorf("%s: the packages %v are there, not %v", what, m.Base(), want)
	}
	row := map[string][]byte{}
	for i, name := range want.Names() {
		row[swap.Db+"/"+name] = want.Pack()[i]
	}
	for p, b := range kept(m.vol.Tree) {
		if !bytes.Equal(b, row[p]) {
			m.t.Errorf("%s: at %s %q is kept, not %q", what, p, b, row[p])
		}
		delete(row, p)
	}
	for p := range row {
		m.t.Errorf("%s: nothing is kept at %s", what, p)
	}
	for _, p := range want.Files() {
		if _, e := m.vol.Read(p); e != api.OK {
			m.t.Errorf("%s: at %s %d is told", what, p, e)
		}
	}
	for _, i := range m.vol.Loose() {
		if m.vol.Held(i) == 0 {
			m.t.Errorf("%s: %d is loose, and not held", what, i)
		}
	}
}

// kept is the bytes of all files of an upgrade's own, files those of all others; by their paths.
func kept(t *tree.Tree) map[string][]byte { return under(t, "/var", map[string][]byte{}) }

func files(t *tree.Tree) map[string][]byte {
	all := under(t, "/", map[string][]byte{})
	for p := range all {
		if path.Within(p, "/var") {
			delete(all, p)
		}
	}
	return all
}

// under adds the bytes of all files within a directory, by their paths.
func under(t *tree.Tree, dir string, all map[string][]byte) map[string][]byte {
	names, _ := t.List(dir)
	above, _ := path.Split(dir)
	for _, n := range names {
		p := path.Join(append(above, n)...)
		if b, e := t.Read(p); e == api.OK {
			all[p] = b
		} else {
			under(t, p, all)
		}
	}
	return all
}

// dirs is all directories but an upgrade's own, and those of the files, in order.
func dirs(t *tree.Tree) []string {
	var all []string
	var look func(names ...string)
	look = func(names ...string) {
		if d := path.Join(names...); t.Dir(d) && d != "/var" {
			all = append(all, d)
			list, _ := t.List(d)
			for _, n := range list {
				look(append(slices.Clone(names), n)...)
			}
		}
	}
	look()
	return all
}

// numbers is the number of each file but an upgrade's own, by its path.
func numbers(t *tree.Tree) map[string]int {
	all := map[string]int{}
	for p := range files(t) {
		all[p], _ = t.Find(p)
	}
	return all
}

// upgrade is the one that is kept.
func (m *machine) upgrade() txn.Txn {
	m.t.Helper()
	b, e := m.vol.Read(swap.Txn)
	m.told("Read of the upgrade", e, api.OK)
	up, e := txn.Unpack(b)
	m.told("Unpack of the upgrade", e, api.OK)
	return up
}

// did holds what has happened to upgrades since the last time against words: began, turned 3 20, committed, undone 20, lost web.
func (m *machine) did(what string, want ...string) {
	m.t.Helper()
	var got []string
	for _, e := range m.Deeds() {
		got = append(got, said(e))
	}
	if !slices.Equal(got, want) {
		m.t.Errorf("%s: upgrades tell %q, not %q", what, got, want)
	}
}

// said is what has happened to an upgrade in such words.
func said(e orch.Event) string {
	word, ok := map[orch.Event]string{
		{Kind: orch.Began}:                  "began",
		{Kind: orch.Committed}:              "committed",
		{Kind: orch.Undone, E: e.E}:         fmt.Sprint("undone ", int(e.E)),
		{Kind: orch.Lost, Unit: e.Unit}:     "lost " + e.Unit,
		{Kind: orch.Turned, Phase: e.Phase}: fmt.Sprint("turned ", e.Phase),
	}[e]
	if !ok && e == (orch.Event{Kind: orch.Turned, Phase: e.Phase, E: e.E}) {
		return fmt.Sprintf("turned %d %d", e.Phase, e.E)
	}
	if !ok {
		return fmt.Sprintf("%#v", e)
	}
	return word
}

// happened holds what has happened to units since the last time against words: web asked, web stopped, web issued.
func (m *machine) happened(what string, want ...string) {
	m.t.Helper()
	var got []string
	for _, e := range m.Events() {
		got = append(got, e.Unit+" "+[]string{"issued", "started", "asked", "stopped", "broke"}[e.Kind])
	}
	if !slices.Equal(got, want) {
		m.t.Errorf("%s: units tell %q, not %q", what, got, want)
	}
}

// stand holds units' states against what they should be: web on, db off.
func (m *machine) stand(what string, want ...string) {
	m.t.Helper()
	states := []string{"off", "starting", "on", "stopping", "failed"}
	for _, w := range want {
		n, state, _ := strings.Cut(w, " ")
		if got := states[m.State(n)]; got != state {
			m.t.Errorf("%s: %s is %s, not %s", what, n, got, state)
		}
	}
}
