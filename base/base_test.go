package base_test

import (
	"bytes"
	"encoding/binary"
	"fmt"
	"hash/crc32"
	"math/rand"
	"slices"
	"strings"
	"testing"

	"farrier/api"
	"farrier/arc"
	"farrier/base"
	"farrier/ver"
)

// full is an entry with something of all there may be.
func full() base.Entry {
	return base.Entry{
		Name: "web", Version: "1.2-3",
		Needs:     []arc.Need{{Name: "lib", Way: ver.Any}, {Name: "db", Way: ver.Least, Ver: "2.0"}, {Name: "db", Way: ver.Below, Ver: "3"}},
		Conflicts: []string{"old-web", "w"},
		Files:     []base.File{{Path: "/bin/web", Sum: 1}, {Path: "/etc/web", Config: true, Sum: 1<<32 - 1}, {Path: "/lib/web"}},
		Units:     []string{"unit web\nfile /bin/web\n", ""},
	}
}

// bare is a package with nothing in it, files one with some files.
func bare(name string) base.Entry { return base.Entry{Name: name, Version: "1"} }

func files(name string, list ...base.File) base.Entry {
	e := bare(name)
	e.Files = list
	return e
}

// most is a package with as many of all as there may be, each as great as it may be.
func most(name string) arc.Pkg {
	p := arc.Pkg{Name: name, Version: "9999.9999.9999.9999-9999"}
	for i := range 8 {
		p.Needs = append(p.Needs, arc.Need{Name: "abcdefghijk" + string(rune('a'+i)), Way: ver.Least, Ver: p.Version})
		p.Conflicts = append(p.Conflicts, "bcdefghijkl"+string(rune('a'+i)))
	}
	for _, c := range "abcdefghijkl" {
		p.Files = append(p.Files, arc.File{Path: "/abcdefghijkl/abcdefghijkl/abcdefghijk/" + string(c), Config: true, Data: make([]byte, 512)})
	}
	for range 4 {
		p.Units = append(p.Units, strings.Repeat("u", 300))
	}
	return p
}

func TestExampleOfASum(t *testing.T) {
	e := base.Of(arc.Pkg{Name: "a", Version: "1", Files: []arc.File{{Path: "/f", Data: []byte("123456789")}}})
	name, f, ok := base.New(e).Owner("/f")
	if want := (base.File{Path: "/f", Sum: 0xCBF43926}); name != "a" || f != want || !ok {
		t.Errorf("%q, %v, %v", name, f, ok)
	}
}

func TestOfAPackage(t *testing.T) {
	p := arc.Pkg{
		Name: "web", Version: "1.2-3",
		Needs:     []arc.Need{{Name: "lib", Way: ver.Any}, {Name: "db", Way: ver.Least, Ver: "2.0"}},
		Conflicts: []string{"old-web", "w"},
		Files:     []arc.File{{Path: "/bin/web", Data: []byte("one")}, {Path: "/etc/web", Config: true, Data: []byte("two")}, {Path: "/lib/web"}},
		Units:     []string{"unit web\nfile /bin/web\n", ""},
	}
	want := base.Entry{
		Name: "web", Version: "1.2-3", Needs: p.Needs, Conflicts: p.Conflicts, Units: p.Units,
		Files: []base.File{
			{Path: "/bin/web", Sum: crc32.ChecksumIEEE([]byte("one"))},
			{Path: "/etc/web", Config: true, Sum: crc32.ChecksumIEEE([]byte("two"))},
			{Path: "/lib/web"},
		},
	}
	if got := base.Of(p); !same(got, want) {
		t.Errorf("it is %v, not %v", got, want)
	}
	if got := base.Of(arc.Pkg{}); !same(got, base.Entry{}) {
		t.Errorf("nothing is %v", got)
	}
	// What isn't right is told as it is.
	p = arc.Pkg{Name: "A/", Needs: []arc.Need{{Way: -1}}, Files: []arc.File{{Path: "f", Data: []byte("123456789")}, {Path: "f"}}}
	want = base.Entry{Name: "A/", Needs: p.Needs, Files: []base.File{{Path: "f", Sum: 0xCBF43926}, {Path: "f"}}}
	if got := base.Of(p); !same(got, want) {
		t.Errorf("it is %v, not %v", got, want)
	}
}

func TestZeroBase(t *testing.T) {
	var zero base.Base
	for what, b := range map[string]base.Base{
		"the zero base": zero, "a base of nothing": base.New(), "one with nothing more": zero.With(), "one without nothing": zero.Without(),
		"one without some": zero.Without("", "a"), "one behind which none is left": base.New(full()).Without("web"),
	} {
		asked(t, what, b, nil)
		if !base.Same(b, zero) || !base.Same(zero, b) {
			t.Errorf("%s: it isn't the same as the zero base", what)
		}
		asked(t, what+", and one more", b.With(full()), model{full()})
		asked(t, what, b, nil)
	}
	if b, e := base.Unpack(); e != api.OK || !base.Same(b, zero) {
		t.Errorf("no rows are unpacked as %v, error %d", b, e)
	}
}

func TestOfOneNameTheLastCounts(t *testing.T) {
	first, second, third := bare("a"), full(), files("a", base.File{Path: "/f"})
	second.Name = "a"
	other := bare("b")
	asked(t, "New", base.New(first, other, second), model{second, other})
	asked(t, "New, turned round", base.New(second, other, first), model{first, other})
	asked(t, "New of three", base.New(first, second, third), model{third})
	b := base.New(other, first)
	asked(t, "With", b.With(second), model{second, other})
	asked(t, "With twice", b.With(second, third), model{third, other})
	asked(t, "With twice, and another", b.With(third, full(), second), model{second, other, full()})
	asked(t, "With, again and again", b.With(second).With(third).With(first), model{first, other})
}

func TestBaseOfBeforeIsAsItWas(t *testing.T) {
	a, turned := full(), full()
	turned.Version = "2"
	before := base.New(a, bare("b"))
	rows := before.Pack()
	with, without := before.With(turned, bare("c")), before.Without("web", "b")
	asked(t, "with more", with, model{turned, bare("b"), bare("c")})
	asked(t, "without any", without, nil)
	asked(t, "without one", before.Without("b"), model{a})
	asked(t, "with more, without one of before", with.Without("b"), model{turned, bare("c")})
	asked(t, "before", before, model{a, bare("b")})
	if !slices.EqualFunc(before.Pack(), rows, bytes.Equal) {
		t.Error("before is packed as other bytes")
	}
	// Of one base there may come two, of which neither tells of the other.
	one, two := before.With(bare("x")), before.With(bare("y"))
	asked(t, "one", one, model{a, bare("b"), bare("x")})
	asked(t, "two", two, model{a, bare("b"), bare("y")})
}

func TestWithoutNamesOfWhichThereAreNone(t *testing.T) {
	b := base.New(full(), bare("b"))
	for _, names := range [][]string{{}, {""}, {"c"}, {"We", "we", "webb", "web ", "/bin/web"}} {
		asked(t, "without none of them", b.Without(names...), model{full(), bare("b")})
	}
	asked(t, "without one, and some that aren't", b.Without("x", "web", "", "web"), model{bare("b")})
}

func TestNamesOfAnyBytes(t *testing.T) {
	var list model
	for _, name := range []string{"b", "", "\xff", "a", "B", "\x00", "a\x00", "aa", "a-", "10", "9", "\u00e9", strings.Repeat("long", 1000)} {
		list = append(list, files(name, base.File{Path: "/f"}))
	}
	b := base.New(list...)
	asked(t, "names of any bytes", b, list)
	if got := strings.Join(b.Names()[:10], "|"); got != "|\x00|10|9|B|a|a\x00|a-|aa|b" {
		t.Errorf("the first names are %q", got)
	}
}

func TestOwners(t *testing.T) {
	one, two, other := base.File{Path: "/f", Sum: 1}, base.File{Path: "/f", Config: true, Sum: 2}, base.File{Path: "/g", Sum: 3}
	for what, c := range map[string]struct {
		b    base.Base
		name string
		f    base.File
	}{
		"one has it":                     {base.New(files("a", other), files("b", one)), "b", one},
		"two have it":                    {base.New(files("a", one), files("b", two)), "a", one},
		"two have it, turned round":      {base.New(files("b", two), files("a", one)), "a", one},
		"the first has it last":          {base.New(files("b", two), files("a", other, one)), "a", one},
		"one has it twice":               {base.New(files("a", other, two, one)), "a", two},
		"two have it, one of them twice": {base.New(files("b", one), files("a", two, one)), "a", two},
		"nobody has it":                  {base.New(files("a", other), bare("b")), "", base.File{}},
		"the first one went":             {base.New(files("a", one), files("b", two)).Without("a"), "b", two},
		"the first one has it no more":   {base.New(files("a", one), files("b", two)).With(files("a", other)), "b", two},
		"nobody has it any more":         {base.New(files("a", one)).With(bare("a")), "", base.File{}},
	} {
		if name, f, ok := c.b.Owner("/f"); name != c.name || f != c.f || ok != (c.name != "") {
			t.Errorf("%s: %q with %v, %v", what, name, f, ok)
		}
	}
	b := base.New(files("a", base.File{Path: "/bin/web"}, base.File{Path: ""}))
	asked(t, "a file without a path", b, model{files("a", base.File{Path: "/bin/web"}, base.File{Path: ""})})
	for _, p := range []string{"/", "/bin", "/bin/", "bin/web", "/bin/web/", "/bin/we", "/bin/webb", "//bin/web"} {
		if name, f, ok := b.Owner(p); name != "" || f != (base.File{}) || ok {
			t.Errorf("%s is owned by %q with %v", p, name, f)
		}
	}
}

func TestFilesInOrderEachOnce(t *testing.T) {
	at := func(paths ...string) (list []base.File) {
		for _, p := range paths {
			list = append(list, base.File{Path: p, Sum: uint32(len(list))})
		}
		return list
	}
	b := base.New(files("b", at("/b", "/a-", "/a/b")...), bare("none"), files("a", at("/z", "/b", "/a", "/b", "/a.")...), files("c", at("/10", "/9", "/Z", "/a/b")...))
	want := "/10 /9 /Z /a /a- /a. /a/b /b /z"
	if got := strings.Join(b.Files(), " "); got != want {
		t.Errorf("%s, not %s", got, want)
	}
}

func TestUnitsInThePackagesOrder(t *testing.T) {
	units := func(name string, texts ...string) base.Entry {
		e := bare(name)
		e.Units = texts
		return e
	}
	b := base.New(units("b", "z", "y", "z"), bare("aa"), units("c", ""), units("a", "b", "", "a"), units("B", "last"))
	if got := strings.Join(b.Units(), "|"); got != "last|b||a|z|y|z|" {
		t.Errorf("the units are %q", got)
	}
}

func TestWhatIsPackedIsUnpackedAsIt(t *testing.T) {
	for what, list := range map[string]model{
		"nothing":                        nil,
		"a package with nothing in it":   {bare("a")},
		"packages with nothing in them":  {bare("a"), bare("b"), bare("c")},
		"nothing at all of one":          {{}},
		"one with all there may be":      {full()},
		"it beside some with nothing":    {bare("a"), full(), bare("z")},
		"lists of what is nothing":       {{Name: "a", Version: "1", Needs: make([]arc.Need, 8), Conflicts: make([]string, 8), Files: make([]base.File, 12), Units: make([]string, 4)}},
		"as much of all as there may be": {base.Of(most("abcdefghijkl")), base.Of(most("a"))},
	} {
		asked(t, what, base.New(list...), list)
	}
	var many model
	for i := range 300 {
		e := base.Of(most(fmt.Sprint("p", i)))
		e.Files[i%12].Sum, e.Files[i%11].Config = uint32(i)<<24, i%2 == 0
		many = append(many, e)
		if i%60 == 24 || i == 299 {
			asked(t, "many packages", base.New(many...), many)
		}
	}
	// Each flag, each way, and each bit of a sum.
	for bit := range 32 {
		e := files("a", base.File{Path: "/f", Config: bit%2 == 0, Sum: 1 << bit})
		e.Needs = []arc.Need{{Name: "b", Way: bit % 4, Ver: "1"}}
		asked(t, "a bit", base.New(e), model{e})
	}
}

func TestARowHasRoomInOneFile(t *testing.T) {
	p := most("abcdefghijkl")
	if !arc.Right(p) {
		t.Fatal("it isn't right")
	}
	if rows := base.New(base.Of(p)).Pack(); len(rows) != 1 || len(rows[0]) > api.MaxData {
		t.Errorf("%d rows, the first of %d bytes", len(rows), len(rows[0]))
	}
}

func TestRowsAreByNamesAndHangOnNothingElse(t *testing.T) {
	a, b, c := files("a", base.File{Path: "/f"}), full(), bare("z")
	rows := base.New(a, b, c).Pack()
	for _, other := range []base.Base{base.New(c, b, a), base.New(c).With(a).With(bare("web"), b), base.New(a, b, c, bare("x")).Without("x")} {
		if !slices.EqualFunc(other.Pack(), rows, bytes.Equal) {
			t.Error("the same base is packed as other bytes")
		}
	}
	for i, e := range []base.Entry{a, b, c} {
		if got, wrong := base.Unpack(rows[i]); wrong != api.OK || !base.Same(got, base.New(e)) {
			t.Errorf("the row %d alone is unpacked as %v, error %d", i, got, wrong)
		}
	}
	if got, wrong := base.Unpack(rows[0], rows[2]); wrong != api.OK || !base.Same(got, base.New(a, c)) {
		t.Errorf("two of the rows are unpacked as %v, error %d", got, wrong)
	}
}

func TestRowsInAnotherOrderOrTwice(t *testing.T) {
	rows := base.New(bare("a"), full(), bare("z")).Pack()
	for _, order := range [][]int{{0, 2, 1}, {1, 0, 2}, {1, 2, 0}, {2, 0, 1}, {2, 1, 0}, {1, 0}, {2, 1}, {2, 0}, {0, 0}, {1, 1}, {0, 1, 1}, {0, 1, 0}, {0, 0, 1, 2}, {0, 1, 2, 2}, {0, 1, 2, 0}} {
		var list [][]byte
		for _, i := range order {
			list = append(list, rows[i])
		}
		none(t, fmt.Sprint("the order ", order), list...)
	}
	other := full()
	other.Version = "2"
	none(t, "two of one name", rows[0], rows[1], base.New(other).Pack()[0])
	none(t, "two of one name, turned round", rows[0], base.New(other).Pack()[0], rows[1])
}

func TestRowsThatAreNone(t *testing.T) {
	rows := base.New(bare("a"), full()).Pack()
	none(t, "a row of nothing", nil)
	none(t, "a row of nothing ahead", nil, rows[0])
	none(t, "a row of nothing behind", rows[0], []byte{})
	none(t, "two rows as one", append(bytes.Clone(rows[0]), rows[1]...))
	for _, n := range []int{1, 3, 4, 8, 24, 28, 29, 64, 4096} {
		for _, b := range []byte{0, 1, 4, 255} {
			none(t, "one byte again and again", bytes.Repeat([]byte{b}, n))
		}
	}
	for at, row := range rows {
		around := func(b []byte) [][]byte {
			list := slices.Clone(rows)
			list[at] = b
			return list
		}
		for n := range row {
			none(t, fmt.Sprint("cut off at ", n), around(row[:n])...)
			none(t, fmt.Sprint("without the first ", n+1), row[n+1:])
		}
		for _, more := range []string{"\x00", "\x00\x00\x00\x00", "a", string(row[len(row)-4:]), string(row)} {
			none(t, "too long", around(append(bytes.Clone(row), more...))...)
		}
		for i := range row {
			for turn := 1; turn < 256; turn++ {
				b := bytes.Clone(row)
				b[i] ^= byte(turn)
				none(t, fmt.Sprint("the byte ", i, " turned by ", turn), around(b)...)
			}
		}
	}
}

// summed is a row that was turned, with its sum made right again.
func summed(row []byte) []byte {
	body := row[:max(0, len(row)-4)]
	return binary.LittleEndian.AppendUint32(bytes.Clone(body), crc32.ChecksumIEEE(body))
}

func TestRowsWithARightSum(t *testing.T) {
	m := maker{rand.New(rand.NewSource(12))}
	told := map[api.Errno]int{}
	for range 60000 {
		row := base.New(m.entry()).Pack()[0]
		for range 1 + m.Intn(3) {
			switch at := m.Intn(len(row)); m.Intn(3) {
			case 0:
				row[at] = byte(m.Intn(6))
			case 1:
				row = append(row[:at], row[at+1:]...)
			case 2:
				row = append(row[:at], append([]byte{byte(m.Intn(3))}, row[at:]...)...)
			}
		}
		row = summed(row)
		b, e := base.Unpack(row)
		told[e]++
		switch again := b.Pack(); {
		case e == api.OK && (len(again) != 1 || !bytes.Equal(again[0], row)):
			t.Errorf("%v is unpacked, and packed as %v", row, again)
		case e != api.OK && len(again) != 0:
			t.Errorf("beside the error %d there is %v", e, b)
		}
	}
	if len(told) != 2 || told[api.OK] < 1000 || told[api.ErrForm] < 1000 {
		t.Errorf("the errors were %v", told)
	}
}

func TestBasesThatDifferInOneThing(t *testing.T) {
	one := base.New(bare("a"), full())
	for what, turn := range map[string]func(e *base.Entry){
		"its name":                func(e *base.Entry) { e.Name = "wed" },
		"its version":             func(e *base.Entry) { e.Version = "1.2-4" },
		"a need's name":           func(e *base.Entry) { e.Needs[2].Name = "lib" },
		"a need's way":            func(e *base.Entry) { e.Needs[1].Way = ver.Just },
		"a need's version":        func(e *base.Entry) { e.Needs[2].Ver = "3.0" },
		"a need less":             func(e *base.Entry) { e.Needs = e.Needs[:2] },
		"a need more":             func(e *base.Entry) { e.Needs = append(e.Needs, e.Needs[0]) },
		"two needs, turned round": func(e *base.Entry) { e.Needs[0], e.Needs[1] = e.Needs[1], e.Needs[0] },
		"a conflict":              func(e *base.Entry) { e.Conflicts[1] = "v" },
		"a conflict less":         func(e *base.Entry) { e.Conflicts = e.Conflicts[1:] },
		"a conflict more":         func(e *base.Entry) { e.Conflicts = append(e.Conflicts, "") },
		"two conflicts, turned":   func(e *base.Entry) { slices.Reverse(e.Conflicts) },
		"no conflicts":            func(e *base.Entry) { e.Conflicts = nil },
		"a file's path":           func(e *base.Entry) { e.Files[0].Path = "/bin/wed" },
		"a file's flag":           func(e *base.Entry) { e.Files[1].Config = false },
		"a file's sum":            func(e *base.Entry) { e.Files[2].Sum = 1 },
		"a file less":             func(e *base.Entry) { e.Files = e.Files[:2] },
		"a file more":             func(e *base.Entry) { e.Files = append(e.Files, base.File{}) },
		"the files, turned round": func(e *base.Entry) { slices.Reverse(e.Files) },
		"a unit":                  func(e *base.Entry) { e.Units[1] = "\n" },
		"a unit less":             func(e *base.Entry) { e.Units = e.Units[:1] },
		"a unit more":             func(e *base.Entry) { e.Units = append(e.Units, "") },
		"the units, turned round": func(e *base.Entry) { slices.Reverse(e.Units) },
	} {
		e := full()
		turn(&e)
		other := base.New(bare("a"), e)
		if base.Same(one, other) || base.Same(other, one) {
			t.Errorf("%s: the bases are told to be the same", what)
		}
		if slices.EqualFunc(one.Pack(), other.Pack(), bytes.Equal) {
			t.Errorf("%s: the bases are packed as the same bytes", what)
		}
	}
	for what, other := range map[string]base.Base{
		"one less": base.New(full()), "one more": one.With(bare("b")), "another one": base.New(full(), bare("b")), "none": {}, "an empty one more": one.With(base.Entry{}),
	} {
		if base.Same(one, other) || base.Same(other, one) {
			t.Errorf("%s: the bases are told to be the same", what)
		}
	}
}

func TestBasesThatAreTheSame(t *testing.T) {
	empty := bare("a")
	empty.Needs, empty.Conflicts, empty.Files, empty.Units = []arc.Need{}, []string{}, []base.File{}, []string{}
	one := base.New(bare("a"), full())
	for what, other := range map[string]base.Base{
		"itself": one, "made in another order": base.New(full(), bare("a")), "with empty lists": base.New(empty, full()),
		"with one turned, and turned back": one.With(bare("web")).With(full()), "without one that came": one.With(bare("b")).Without("b"),
	} {
		if !base.Same(one, other) || !base.Same(other, one) {
			t.Errorf("%s: the bases are told to differ", what)
		}
	}
}

// spoil turns all that an entry's lists have, behind their ends, too.
func spoil(e base.Entry) {
	for i := range e.Needs {
		e.Needs[i] = arc.Need{Name: "spoilt"}
	}
	for i := range e.Files {
		e.Files[i] = base.File{Path: "/spoilt"}
	}
	for _, list := range [][]string{e.Conflicts, e.Units} {
		for i := range list {
			list[i] = "spoilt"
		}
	}
	_ = append(e.Needs, arc.Need{Name: "spoilt"})
	_ = append(e.Files, base.File{Path: "/spoilt"})
	_, _ = append(e.Conflicts, "spoilt"), append(e.Units, "spoilt")
}

func TestWhatIsHandedInMayBeTurned(t *testing.T) {
	p := arc.Pkg{
		Name: "web", Version: "1", Needs: []arc.Need{{Name: "b"}}, Conflicts: []string{"c"},
		Files: []arc.File{{Path: "/f", Data: []byte("123456789")}}, Units: []string{"u"},
	}
	want := base.Entry{
		Name: "web", Version: "1", Needs: []arc.Need{{Name: "b"}}, Conflicts: []string{"c"},
		Files: []base.File{{Path: "/f", Sum: 0xCBF43926}}, Units: []string{"u"},
	}
	of := base.Of(p)
	p.Needs[0].Name, p.Conflicts[0], p.Units[0] = "x", "x", "x"
	clear(p.Files[0].Data)
	p.Files[0] = arc.File{}
	if !same(of, want) {
		t.Errorf("the package that was turned turned its entry to %v", of)
	}
	list := []base.Entry{of, full()}
	b := base.New(list...)
	c := base.New(bare("a")).With(list...)
	names := []string{"a"}
	d := c.Without(names...)
	names[0] = "web"
	rows := b.Pack()
	u, _ := base.Unpack(rows...)
	spoil(list[0])
	spoil(list[1])
	list[0], list[1] = base.Entry{}, bare("x")
	for _, row := range rows {
		clear(row)
	}
	asked(t, "New", b, model{full()})
	asked(t, "With", c, model{full(), bare("a")})
	asked(t, "Without", d, model{full()})
	asked(t, "Unpack", u, model{full()})
}

func TestWhatIsHandedInIsNotTurned(t *testing.T) {
	list := []base.Entry{files("b", base.File{Path: "/z"}, base.File{Path: "/a"}, base.File{Path: "/a"}), full(), bare("a")}
	keep := []base.Entry{plain(list[0]), plain(list[1]), plain(list[2])}
	names := []string{"z", "b", "a", "b"}
	b := base.New(list...)
	asked(t, "New", b, list)
	b.With(list...).Without(names...).Files()
	if !slices.EqualFunc(list, keep, same) || !slices.Equal(names, []string{"z", "b", "a", "b"}) {
		t.Errorf("what was handed in is %v and %q", list, names)
	}
	rows := b.Pack()
	ahead := []string{string(rows[0]), string(rows[1]), string(rows[2])}
	base.Unpack(rows...)
	base.Unpack(rows[2], rows[1], rows[0])
	for i, row := range rows {
		if string(row) != ahead[i] {
			t.Errorf("the row %d was turned", i)
		}
	}
}

func TestWhatIsToldMayBeTurned(t *testing.T) {
	list := model{files("a", base.File{Path: "/a"}, base.File{Path: "/a"}), full(), bare("z")}
	b := base.New(list...)
	with, without := b.With(bare("more")), b.Without("a")
	for range 2 {
		for _, name := range b.Names() {
			e, _ := b.Get(name)
			spoil(e)
		}
		for _, texts := range [][]string{b.Names(), b.Files(), b.Units()} {
			texts = texts[:cap(texts)]
			for i := range texts {
				texts[i] = "spoilt"
			}
		}
		rows := b.Pack()
		for i := range rows {
			clear(rows[i][:cap(rows[i])])
			rows[i] = nil
		}
		asked(t, "the base", b, list)
		asked(t, "with one more", with, append(slices.Clone(list), bare("more")))
		asked(t, "without one", without, list[1:])
	}
}

func TestRowsShareNothing(t *testing.T) {
	rows := base.New(bare("a"), full(), bare("z")).Pack()
	keep := []string{string(rows[0]), string(rows[1]), string(rows[2])}
	for i := range rows {
		_ = append(rows[i], "more, and more, and more, and more, and more"...)
	}
	for i, row := range rows {
		if string(row) != keep[i] {
			t.Errorf("the row %d was turned by what another one has behind it", i)
		}
	}
}

func TestRandomOrdersOfCalls(t *testing.T) {
	m := maker{rand.New(rand.NewSource(11))}
	bases, models := []base.Base{{}}, []model{nil}
	alike := 0
	for range 4000 {
		at, other := m.Intn(len(bases)), m.Intn(len(bases))
		b, want := bases[at], models[at]
		what := "random calls"
		switch m.Intn(4) {
		case 0, 1:
			list := m.entries()
			b, want = b.With(list...), want.with(list...)
		case 2:
			names := []string{m.name(), m.name(), m.name()}[:m.Intn(4)]
			b, want = b.Without(names...), want.without(names...)
		case 3:
			list := m.entries()
			b, want = base.New(list...), model(nil).with(list...)
		}
		asked(t, what, b, want)
		asked(t, "what was there ahead", bases[at], models[at])
		is := models[other].same(want)
		if base.Same(b, bases[other]) != is || base.Same(bases[other], b) != is {
			t.Errorf("%v and %v are told to be the same: %v", b, bases[other], !is)
		}
		if is {
			alike++
		}
		if len(bases) < 30 {
			bases, models = append(bases, b), append(models, want)
		} else {
			bases[other], models[other] = b, want
		}
	}
	if alike < 20 || alike > 3000 {
		t.Errorf("%d bases were the same", alike)
	}
}
