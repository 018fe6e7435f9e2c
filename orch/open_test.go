package orch_test

import (
	"bytes"
	"maps"
	"slices"
	"strings"
	"testing"

	"farrier/api"
	"farrier/arc"
	"farrier/base"
	"farrier/dep"
	"farrier/disk"
	"farrier/mgr"
	"farrier/orch"
	"farrier/proc"
	"farrier/swap"
	"farrier/tree"
	"farrier/txn"
	"farrier/vol"
)

func TestConstants(t *testing.T) {
	if orch.Reboot != "reboot" {
		t.Errorf("%q is wanted", orch.Reboot)
	}
	if got := [...]int{orch.Began, orch.Turned, orch.Committed, orch.Undone, orch.Lost}; got != [...]int{0, 1, 2, 3, 4} {
		t.Errorf("the kinds are %v", got)
	}
}

func TestUnits(t *testing.T) {
	g, f := orch.Units(base.Base{})
	if f != (dep.Fault{}) || g == nil || len(g.Names()) != 0 {
		t.Errorf("units of no packages are %v, %v", g, f)
	}
	g, f = orch.Units(of(
		pkg("b", "1", "unit x;file /x;requires y;retry 2", "unit z;file /z"),
		pkg("a", "1", "unit y;file /y;file /x"),
		pkg("c", "1", "/f c"),
	))
	if f != (dep.Fault{}) || g == nil {
		t.Fatalf("units are %v, %v", g, f)
	}
	if got := g.Names(); !slices.Equal(got, []string{"x", "y", "z"}) {
		t.Errorf("the units are %q", got)
	}
	if u, _ := g.Get("x"); u.Retry != 2 || !slices.Equal(u.Requires, []string{"y"}) {
		t.Errorf("x is %v", u)
	}
	if got := g.Behind("x"); !slices.Equal(got, []string{"y"}) {
		t.Errorf("x stands behind %q", got)
	}
}

func TestUnitsThatAreWrong(t *testing.T) {
	many := func(name string, n int) arc.Pkg {
		p := pkg(name, "1")
		for i := range n {
			p.Units = append(p.Units, "unit "+name+string(rune('a'+i))+"\nfile /f")
		}
		return p
	}
	if g, f := orch.Units(of(many("a", 8), many("b", 8))); f != (dep.Fault{}) || len(g.Names()) != 16 {
		t.Errorf("of 16 units %v, %v is told", g, f)
	}
	for what, c := range map[string]struct {
		list []arc.Pkg
		want dep.Fault
	}{
		"the first text that isn't one": {
			[]arc.Pkg{pkg("c", "1", "unit c"), pkg("b", "1", "unit b;file /b", "unit .;file /b", "unit b;what"), pkg("a", "1", "unit a;file /a")},
			dep.Fault{E: api.ErrName, Name: "b"},
		},
		"a text without a file": {[]arc.Pkg{pkg("p", "1", "unit u")}, dep.Fault{E: api.ErrNone, Name: "p"}},
		"a text ahead of units that are too many": {
			[]arc.Pkg{many("a", 17), pkg("b", "1", "unit b;file /b;what x")}, dep.Fault{E: api.ErrForm, Name: "b"},
		},
		"too many":                {[]arc.Pkg{many("a", 8), many("b", 9)}, dep.Fault{E: api.ErrMany}},
		"two of one name":         {[]arc.Pkg{pkg("b", "1", "unit u;file /f"), pkg("a", "1", "unit u;file /g")}, dep.Fault{E: api.ErrTwice, Name: "u"}},
		"the first one of two":    {[]arc.Pkg{pkg("b", "1", "unit u;file /f", "unit v;file /f"), pkg("a", "1", "unit u;file /g", "unit v;file /g")}, dep.Fault{E: api.ErrTwice, Name: "u"}},
		"two of one, in one":      {[]arc.Pkg{pkg("b", "1", "unit u;file /f", "unit u;file /f")}, dep.Fault{E: api.ErrTwice, Name: "u"}},
		"one that isn't there":    {[]arc.Pkg{pkg("p", "1", "unit u;file /f;partof x", "unit t;file /f;requires x")}, dep.Fault{E: api.ErrNeeds, Name: "t"}},
		"units that want another": {[]arc.Pkg{pkg("p", "1", "unit u;file /f;wants x;after x;before x")}, dep.Fault{}},
		"a circle":                {[]arc.Pkg{pkg("p", "1", "unit u;file /f;after w"), pkg("q", "1", "unit w;file /f;after v", "unit v;file /f;after u")}, dep.Fault{E: api.ErrCycle, Name: "u"}},
	} {
		g, f := orch.Units(of(c.list...))
		if f != c.want || (g != nil) != (f.E == api.OK) {
			t.Errorf("%s: %v, %v is told, not %v", what, g, f, c.want)
		}
	}
}

func TestOpenOfANewVolume(t *testing.T) {
	m := fresh(t)
	m.is("a new volume", base.Base{})
	m.did("a new volume")
	m.happened("a new volume")
	for _, d := range []string{"/var", swap.Stage, swap.Old, swap.New, swap.Db} {
		if !m.vol.Dir(d) {
			t.Errorf("there is no %s", d)
		}
	}
	if m.vol.Nodes() != 6 || len(m.Bad()) != 0 || len(m.Pending()) != 0 || len(m.List()) != 0 {
		t.Errorf("there are %d nodes, %q are bad, %q pending, %v run", m.vol.Nodes(), m.Bad(), m.Pending(), m.List())
	}
	if g := m.Graph(); g == nil || len(g.Names()) != 0 {
		t.Errorf("the units are %v", g)
	}
	was := m.vol.Dump()
	m.disk.Plan(1, 0) // the first write would tell
	m.vol, m.Orch = nil, nil
	v, e := vol.Open(m.disk, m.quota)
	if e != api.OK {
		t.Fatal(e)
	}
	o, e := orch.Open(v, mgr.New(proc.New(v)))
	if e != api.OK || o == nil || m.disk.Down() || !slices.EqualFunc(v.Dump(), was, bytes.Equal) {
		t.Errorf("opened again, %v, %d is told", o, e)
	}
}

// What users have is left as it is.
func TestOpenBesideUsersFiles(t *testing.T) {
	v, _ := vol.Open(disk.New(200), 1000)
	v.Do(tree.Op{Kind: tree.Create, Path: "/f", Data: []byte("mine")})
	o, e := orch.Open(v, mgr.New(proc.New(v)))
	if b, _ := v.Read("/f"); e != api.OK || o == nil || string(b) != "mine" {
		t.Errorf("%d is told, %q is read", e, b)
	}
}

func TestOpenOfPackagesThatAreThere(t *testing.T) {
	a, b := pkg("a", "1", "/a one", "unit x;file /a;requires y"), pkg("b", "2", "config /b two", "unit y;file /b")
	m := on(t, a, b)
	m.bring("y", "x")
	m.boot()
	m.is("what is opened again", of(a, b))
	m.did("what is opened again")
	m.happened("what is opened again")
	m.stand("what is opened again", "x off", "y off")
	if got := m.Graph().Names(); !slices.Equal(got, []string{"x", "y"}) {
		t.Errorf("the units are %q", got)
	}
	m.told("Start of x", m.Start("x"), api.ErrNeeds)
	m.bring("y", "x")
}

// lies is a volume on which such operations were done.
func lies(t *testing.T, ops ...tree.Op) *vol.Vol {
	t.Helper()
	v, e := vol.Open(disk.New(sectors), quota)
	if e != api.OK {
		t.Fatal(e)
	}
	if e := v.Do(ops...); e != api.OK {
		t.Fatal(e)
	}
	return v
}

func mkdir(p string) tree.Op { return tree.Op{Kind: tree.Mkdir, Path: p} }

func create(p string, data []byte) tree.Op {
	return tree.Op{Kind: tree.Create, Path: p, Data: data}
}

// row is a package's row.
func row(p arc.Pkg) []byte { return of(p).Pack()[0] }

func TestOpenOfWhatIsNothingOfThis(t *testing.T) {
	a := pkg("a", "1", "/a one", "unit u;file /a")
	laid := func(ops ...tree.Op) []tree.Op { return append(swap.Layout(), ops...) }
	at := func(phase int) []byte { return txn.Txn{Phase: phase, Come: []string{"a"}}.Pack() }
	for what, c := range map[string]struct {
		ops  []tree.Op
		want api.Errno
	}{
		"packages":                      {laid(create("/var/db/a", row(a))), api.OK},
		"a file for all":                {[]tree.Op{create("/var", nil)}, api.ErrTwice},
		"a directory alone":             {[]tree.Op{mkdir("/var")}, api.ErrTwice},
		"a file for the packages":       {[]tree.Op{mkdir("/var"), create("/var/db", nil)}, api.ErrLost},
		"bytes that are no package":     {laid(create("/var/db/a", []byte("what"))), api.ErrLost},
		"no bytes":                      {laid(create("/var/db/a", nil)), api.ErrLost},
		"a byte too many":               {laid(create("/var/db/a", append(row(a), 0))), api.ErrLost},
		"a package by another name":     {laid(create("/var/db/b", row(a))), api.ErrLost},
		"one among others":              {laid(create("/var/db/a", row(a)), create("/var/db/b", row(a))), api.ErrLost},
		"a directory for a package":     {laid(mkdir("/var/db/a")), api.ErrLost},
		"one beside a package":          {laid(create("/var/db/a", row(a)), mkdir("/var/db/b")), api.ErrLost},
		"units that aren't right":       {laid(create("/var/db/a", row(pkg("a", "1", "unit u")))), api.ErrLost},
		"units of one name":             {laid(create("/var/db/a", row(a)), create("/var/db/b", row(pkg("b", "1", "unit u;file /b")))), api.ErrLost},
		"no upgrade":                    {laid(create("/var/txn", []byte("what"))), api.ErrLost},
		"an upgrade without bytes":      {laid(create("/var/txn", nil)), api.ErrLost},
		"a directory for an upgrade":    {laid(mkdir("/var/txn")), api.ErrLost},
		"an upgrade, and no package":    {laid(create("/var/txn", at(txn.Staging)), create("/var/db/x", nil)), api.ErrLost},
		"an upgrade":                    {laid(create("/var/txn", at(txn.Staging)), create("/var/new/a", []byte("what"))), api.OK},
		"one that is done":              {laid(create("/var/txn", at(txn.Restarting)), create("/var/new/a", row(a))), api.OK},
		"one by which no package comes": {laid(create("/var/txn", at(txn.Restarting)), create("/var/new/a", []byte("what"))), api.ErrLost},
		"one by which another comes":    {laid(create("/var/txn", at(txn.Restarting)), create("/var/new/a", row(pkg("b", "1")))), api.ErrLost},
		"one by which wrong units come": {laid(create("/var/txn", at(txn.Restarting)), create("/var/new/a", row(a)), create("/var/db/b", row(pkg("b", "1", "unit u;file /b")))), api.ErrLost},
		"one by which they go":          {laid(create("/var/txn", txn.Txn{Phase: txn.Restarting, Go: []string{"b"}}.Pack()), create("/var/db/a", row(a)), create("/var/db/b", row(pkg("b", "1", "unit u;file /b")))), api.OK},
		"one by which none goes":        {laid(create("/var/txn", txn.Txn{Phase: txn.Restarting, Go: []string{"b"}}.Pack())), api.ErrNone},
		"one whose rows aren't there":   {laid(create("/var/txn", at(txn.Restarting))), api.ErrNone},
		"one that can't be undone":      {laid(create("/var/txn", txn.Txn{Phase: txn.Swapping, At: 1, Moves: []txn.Move{{Kind: txn.Put, Path: "/f"}}}.Pack())), api.ErrNone},
	} {
		v := lies(t, c.ops...)
		was, left := v.Dump(), kept(v.Tree)
		for range 2 {
			m := mgr.New(proc.New(v))
			units := m.Graph()
			o, e := orch.Open(v, m)
			if e != c.want || (o != nil) != (e == api.OK) {
				t.Fatalf("%s: %v, %d is told, not %d", what, o, e, c.want)
			}
			if c.want == api.OK {
				continue
			}
			if m.Graph() != units || !slices.EqualFunc(v.Dump(), was, bytes.Equal) || !maps.EqualFunc(kept(v.Tree), left, bytes.Equal) {
				t.Errorf("%s: what lies there was turned", what)
			}
		}
	}
}

func TestOpenWithoutPower(t *testing.T) {
	d := disk.New(sectors)
	v, _ := vol.Open(d, quota)
	d.Crash(0)
	if o, e := orch.Open(v, mgr.New(proc.New(v))); o != nil || e != api.ErrDown {
		t.Errorf("%v, %d is told", o, e)
	}
}

// Opened in each phase, behind each step, an upgrade is undone, or finished from Restarting on till it turns round; and what is opened then is the same.
func TestOpenWhileAnUpgradeIsUnderWay(t *testing.T) {
	one := pkg("a", "1", "/bin/a one", "/etc/x one", "/old/f gone", "unit a;file /bin/a")
	two := pkg("a", "2", "/bin/a two", "/bin/b new", "/etc/x one", "/sub/dir/f new", "unit a;file /bin/a;retry 1", "unit b;file /bin/b")
	other := pkg("b", "1", "/b one", "unit c;file /b")
	third := pkg("c", "1", "/sub/c one")
	change := dep.Change{Come: []arc.Pkg{two, third}, Go: []string{"b"}}
	was, now := of(one, other), of(two, third)
	for _, fails := range []bool{false, true} {
		for n := range 100 {
			m := on(t, one, other)
			m.bring("a", "c")
			before, ids, places := files(m.vol.Tree), numbers(m.vol.Tree), dirs(m.vol.Tree)
			m.begin(change)
			for range n {
				if m.Step() {
					continue
				}
				if fails {
					m.settle("a")
				} else {
					m.settle()
				}
			}
			phase, under := m.Phase()
			if !under {
				if n < 20 {
					t.Errorf("it is over behind %d steps", n)
				}
				break
			}
			m.boot()
			if phase == txn.Restarting {
				m.is("finished", now)
				m.did("finished", "committed")
				m.sums("finished", two, third)
			} else {
				m.is("undone", was)
				m.did("undone", "undone 0")
				if got := files(m.vol.Tree); !maps.EqualFunc(got, before, bytes.Equal) {
					t.Errorf("in phase %d, behind %d steps: the files are %q, not %q", phase, n, got, before)
				}
				if got := numbers(m.vol.Tree); !maps.Equal(got, ids) {
					t.Errorf("in phase %d, behind %d steps: the files' numbers are %v, not %v", phase, n, got, ids)
				}
				if got := dirs(m.vol.Tree); !slices.Equal(got, places) {
					t.Errorf("in phase %d, behind %d steps: the directories are %q, not %q", phase, n, got, places)
				}
			}
			m.stand("opened", "a off", "b off", "c off")
			m.happened("opened")
			g, _ := orch.Units(m.Base())
			if got := m.Graph().Names(); !slices.Equal(got, g.Names()) {
				t.Errorf("the units are %q", got)
			}
			if len(m.Bad()) != 0 {
				t.Errorf("%q are bad", m.Bad())
			}
			dump := m.vol.Dump()
			m.boot()
			m.did("opened again")
			if !slices.EqualFunc(m.vol.Dump(), dump, bytes.Equal) {
				t.Error("opened again, something else lies there")
			}
		}
	}
}

// sums holds the files of packages against what they should be, by their bytes, and looks that there are no others.
func (m *machine) sums(what string, list ...arc.Pkg) {
	m.t.Helper()
	have := files(m.vol.Tree)
	for _, p := range list {
		for _, f := range p.Files {
			if got, ok := have[f.Path]; !ok || !bytes.Equal(got, f.Data) {
				m.t.Errorf("%s: at %s %q is read, not %q", what, f.Path, got, f.Data)
			}
			delete(have, f.Path)
		}
	}
	for p, b := range have {
		m.t.Errorf("%s: at %s %q stands", what, p, b)
	}
}

// The moves that are done are undone one by one, each kept at once.
func TestOpenUndoesMoveByMove(t *testing.T) {
	one, two := pkg("a", "1", "/a 1", "/b 1", "/c 1"), pkg("a", "2", "/a 2", "/b 2", "/c 2")
	for n := range 60 {
		m := on(t, one)
		m.begin(come(two))
		m.to(txn.Swapping)
		m.steps(3)
		v, _ := vol.Open(m.disk, m.quota)
		m.disk.Plan(n+1, 0)
		_, e := orch.Open(v, mgr.New(proc.New(v)))
		if e == api.OK {
			if n < 8 {
				t.Errorf("it is opened by %d writes", n)
			}
			return
		}
		m.told("Open, as the power goes", e, api.ErrDown)
		m.disk.On()
		v, e = vol.Open(m.disk, m.quota)
		m.told("Open of the volume", e, api.OK)
		b, e := v.Read(swap.Txn)
		if e == api.ErrNone {
			continue
		}
		up, e := txn.Unpack(b)
		m.told("Unpack of the upgrade", e, api.OK)
		if up.At == 3 {
			if up.Phase != txn.Swapping {
				t.Errorf("%v is kept", up)
			}
		} else if up.Phase != txn.Undoing {
			t.Errorf("%v is kept", up)
		}
		for i, p := range []string{"/a", "/b", "/c"} {
			want := "1"
			if i < up.At {
				want = "2"
			}
			if b, _ := v.Read(p); string(b) != want {
				t.Errorf("where %d moves are left, at %s %q is read", up.At, p, b)
			}
		}
		m.boot()
		m.is("opened again", of(one))
		m.sums("opened again", one)
		m.did("opened again", "undone 0")
	}
	t.Error("it isn't opened")
}

// A lost machine's error is vol's; what is told of a quota that is too small now, too.
func TestOpenHandsOnTheVolumesErrors(t *testing.T) {
	v, _ := vol.Open(disk.New(6), 1000)
	if o, e := orch.Open(v, mgr.New(proc.New(v))); o != nil || e != api.ErrFull {
		t.Errorf("of a small disk %v, %d is told", o, e)
	}
	var ops []tree.Op
	for i := range 124 {
		ops = append(ops, create("/"+strings.Repeat("x", 1+i%12)+string(rune('a'+i/12)), nil))
	}
	v = lies(t)
	for _, o := range ops {
		v.Do(o)
	}
	if o, e := orch.Open(v, mgr.New(proc.New(v))); v.Nodes() > 123 && (o != nil || e != api.ErrFull) {
		t.Errorf("with %d nodes %v, %d is told", v.Nodes(), o, e)
	}
}
