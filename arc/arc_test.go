package arc_test

import (
	"bytes"
	"math"
	"math/rand"
	"strings"
	"testing"

	"farrier/api"
	"farrier/arc"
	"farrier/ver"
)

// full is a right package with something of all there may be.
func full() arc.Pkg {
	return arc.Pkg{
		Name: "web", Version: "1.2-3",
		Needs: []arc.Need{
			{Name: "lib", Way: ver.Any},
			{Name: "db", Way: ver.Least, Ver: "2.0"},
			{Name: "db", Way: ver.Below, Ver: "3"},
			{Name: "c", Way: ver.Just, Ver: "0-1"},
		},
		Conflicts: []string{"old-web", "w"},
		Files: []arc.File{
			{Path: "/bin/web", Data: []byte("one")},
			{Path: "/etc/web", Config: true, Data: []byte("port 80\n")},
			{Path: "/lib/web", Data: nil},
		},
		Units: []string{"unit web\nfile /bin/web\n", ""},
	}
}

// turned is the full package, with one thing of it turned.
func turned(turn func(p *arc.Pkg)) arc.Pkg {
	p := full()
	turn(&p)
	return p
}

// with, files, units are the smallest package with some needs, or files, empty ones, or units.
func with(needs ...arc.Need) arc.Pkg { return arc.Pkg{Name: "a", Version: "1", Needs: needs} }

func files(paths ...string) arc.Pkg {
	p := with()
	for _, s := range paths {
		p.Files = append(p.Files, arc.File{Path: s})
	}
	return p
}

func units(texts ...string) arc.Pkg { return arc.Pkg{Name: "a", Version: "1", Units: texts} }

// is holds a package to be right, or not.
func is(t *testing.T, what string, ok bool, p arc.Pkg) {
	t.Helper()
	if got := asked(t, what, p); got != ok {
		t.Errorf("%s: the test tells itself %v", what, got)
	}
	if got := arc.Right(p); got != ok {
		t.Errorf("%s: Right tells %v", what, got)
	}
	want := api.OK
	if !ok {
		want = api.ErrForm
	}
	if _, e := arc.Read(summed(body(p))); e != want {
		t.Errorf("%s: Read of its bytes tells the error %d, not %d", what, e, want)
	}
}

// written is a right package's bytes.
func written(t *testing.T, p arc.Pkg) []byte {
	t.Helper()
	b, e := arc.Write(p)
	if e != api.OK {
		t.Fatalf("Write tells the error %d", e)
	}
	return b
}

func TestExampleOfFortyFiveBytes(t *testing.T) {
	p := arc.Pkg{Name: "a", Version: "1", Files: []arc.File{{Path: "/f", Data: []byte("x")}}}
	b := written(t, p)
	want := summed([]byte("\x01\x00\x00\x00a" + "\x01\x00\x00\x001" +
		"\x00\x00\x00\x00" + "\x00\x00\x00\x00" +
		"\x0f\x00\x00\x00" + "\x02\x00\x00\x00/f" + "\x00\x00\x00\x00" + "\x01\x00\x00\x00x" +
		"\x00\x00\x00\x00"))
	if len(b) != 45 || !bytes.Equal(b, want) {
		t.Errorf("it has %d bytes, %q", len(b), b)
	}
	if q, e := arc.Read(b); e != api.OK || !same(p, q) {
		t.Errorf("it is read as %v, error %d", q, e)
	}
}

func TestLimitsHaveTheirNumbers(t *testing.T) {
	if arc.MaxUnit != 300 || arc.MostUnits != 4 {
		t.Errorf("%d %d", arc.MaxUnit, arc.MostUnits)
	}
}

func TestAllThatAPackageHasIsWrittenAndRead(t *testing.T) {
	p := full()
	is(t, "the full package", true, p)
	q, e := arc.Read(written(t, p))
	if e != api.OK || !same(p, q) {
		t.Errorf("it is read as %v, error %d", q, e)
	}
	want := string(summed([]byte("\x03\x00\x00\x00web" + "\x05\x00\x00\x001.2-3" +
		"\x3f\x00\x00\x00" +
		"\x03\x00\x00\x00lib" + "\x00\x00\x00\x00" + "\x00\x00\x00\x00" +
		"\x02\x00\x00\x00db" + "\x01\x00\x00\x00" + "\x03\x00\x00\x002.0" +
		"\x02\x00\x00\x00db" + "\x03\x00\x00\x00" + "\x01\x00\x00\x003" +
		"\x01\x00\x00\x00c" + "\x02\x00\x00\x00" + "\x03\x00\x00\x000-1" +
		"\x10\x00\x00\x00" + "\x07\x00\x00\x00old-web" + "\x01\x00\x00\x00w" +
		"\x47\x00\x00\x00" +
		"\x08\x00\x00\x00/bin/web" + "\x00\x00\x00\x00" + "\x03\x00\x00\x00one" +
		"\x08\x00\x00\x00/etc/web" + "\x01\x00\x00\x00" + "\x08\x00\x00\x00port 80\n" +
		"\x08\x00\x00\x00/lib/web" + "\x00\x00\x00\x00" + "\x00\x00\x00\x00" +
		"\x1f\x00\x00\x00" + "\x17\x00\x00\x00unit web\nfile /bin/web\n" + "\x00\x00\x00\x00")))
	if got := string(written(t, p)); got != want {
		t.Errorf("it is written as %q, not %q", got, want)
	}
}

func TestZeroPackageIsNotRight(t *testing.T) { is(t, "the zero package", false, arc.Pkg{}) }

func TestNilListsAndEmptyOnesAreOne(t *testing.T) {
	p := with()
	q := arc.Pkg{Name: "a", Version: "1", Needs: []arc.Need{}, Conflicts: []string{}, Files: []arc.File{}, Units: []string{}}
	is(t, "nil lists", true, p)
	is(t, "empty lists", true, q)
	if !bytes.Equal(written(t, p), written(t, q)) {
		t.Error("nil lists and empty ones are written as other bytes")
	}
	p.Files, q.Files = []arc.File{{Path: "/f"}}, []arc.File{{Path: "/f", Data: []byte{}}}
	if !bytes.Equal(written(t, p), written(t, q)) {
		t.Error("nil bytes and empty ones are written as other bytes")
	}
}

func TestAsManyAsThereMayBe(t *testing.T) {
	for n := range 40 {
		p := with()
		for range n {
			p.Needs = append(p.Needs, arc.Need{Name: "b"})
		}
		is(t, "needs", n <= 8, p)
		p = with()
		for range n {
			p.Conflicts = append(p.Conflicts, "b")
		}
		is(t, "conflicts", n <= 8, p)
		p = with()
		for i := range n {
			p.Files = append(p.Files, arc.File{Path: "/" + strings.Repeat("f", i/10+1) + string(rune('0'+i%10))})
		}
		ordered(p.Files)
		is(t, "files", n <= 12, p)
		is(t, "units", n <= 4, units(make([]string, n)...))
	}
	p := full()
	p.Needs = append(p.Needs, p.Needs...)
	p.Conflicts = strings.Split("b c d e f g h i", " ")
	p.Files = nil
	for _, c := range "abcdefghijkl" {
		p.Files = append(p.Files, arc.File{Path: "/" + string(c), Config: c == 'b', Data: bytes.Repeat([]byte{byte(c)}, 512)})
	}
	p.Units = []string{strings.Repeat("w", 300), strings.Repeat("x", 300), strings.Repeat("y", 300), strings.Repeat("z", 300)}
	is(t, "as many of all as there may be", true, p)
}

func TestNamesAndVersions(t *testing.T) {
	for s, ok := range map[string]bool{
		"a": true, "abcdefghijkl": true, "0": true, "-": true, "...": true, "a.b-c_d": true,
		"": false, ".": false, "..": false, "abcdefghijklm": false, "A": false, "a b": false, "/a": false, "a/": false, "\xff": false, "\u00e9": false, "a\n": false, "a\x00": false,
	} {
		is(t, "its name "+s, ok, turned(func(p *arc.Pkg) { p.Name = s }))
		is(t, "a conflict "+s, ok, turned(func(p *arc.Pkg) { p.Conflicts[1] = s }))
		is(t, "the first conflict "+s, ok, turned(func(p *arc.Pkg) { p.Conflicts[0] = s }))
		for way, v := range []string{"", "1", "1", "1"} {
			is(t, "a need's name "+s, ok, with(arc.Need{Name: "b"}, arc.Need{Name: s, Way: way, Ver: v}))
			is(t, "the first need's name "+s, ok, with(arc.Need{Name: s, Way: way, Ver: v}, arc.Need{Name: "b"}))
		}
	}
	for s, ok := range map[string]bool{
		"0": true, "1": true, "1.2.3.4": true, "1.2.3.4-5": true, "9999.9999.9999.9999-9999": true,
		"": false, "01": false, "1.2.3.4.5": false, "10000": false, "1-0": false, "1-10000": false, "1.": false, "-1": false, "v1": false, "1 ": false, "1\x00": false,
	} {
		is(t, "its version "+s, ok, turned(func(p *arc.Pkg) { p.Version = s }))
		for way := ver.Least; way <= ver.Below; way++ {
			is(t, "a need's version "+s, ok, with(arc.Need{Name: "b"}, arc.Need{Name: "c", Way: way, Ver: s}))
		}
	}
}

func TestConflictIsNotItsOwnName(t *testing.T) {
	is(t, "its own name as a conflict", false, arc.Pkg{Name: "a", Version: "1", Conflicts: []string{"a"}})
	is(t, "its own name as the last conflict", false, arc.Pkg{Name: "a", Version: "1", Conflicts: []string{"b", "c", "a"}})
	is(t, "a longer name", true, arc.Pkg{Name: "a", Version: "1", Conflicts: []string{"aa", "a.", "-a"}})
	is(t, "a conflict twice", true, arc.Pkg{Name: "a", Version: "1", Conflicts: []string{"b", "b"}})
	is(t, "its own name as a need", true, with(arc.Need{Name: "a"}))
	is(t, "a conflict that is needed", true, arc.Pkg{Name: "a", Version: "1", Conflicts: []string{"b"}, Needs: []arc.Need{{Name: "b"}}})
}

func TestWaysOfNeeds(t *testing.T) {
	for way := ver.Any; way <= ver.Below; way++ {
		is(t, "a version", way != ver.Any, with(arc.Need{Name: "b", Way: way, Ver: "1"}))
		is(t, "no version", way == ver.Any, with(arc.Need{Name: "b", Way: way}))
		is(t, "what is no version", false, with(arc.Need{Name: "b", Way: way, Ver: "x"}))
		is(t, "a blank", false, with(arc.Need{Name: "b", Way: way, Ver: " "}))
	}
	for _, way := range []int{-1, -2, 4, 5, 255, 256, 257, 1<<31 - 1, 1 << 31, 1<<32 - 1} {
		for _, v := range []string{"", "0", "1.2", "x"} {
			is(t, "another way", false, with(arc.Need{Name: "b", Way: way, Ver: v}))
		}
	}
}

func TestWayIsNotModulo2To32(t *testing.T) {
	for way := ver.Any; way <= ver.Below; way++ {
		for _, other := range []int{math.MinInt, -1 << 32, 1 << 32, 1 << 33, 1 << 62} {
			for _, v := range []string{"", "1"} {
				p := with(arc.Need{Name: "b", Way: other + way, Ver: v})
				if b, e := arc.Write(p); arc.Right(p) || e != api.ErrArg || len(b) != 0 {
					t.Errorf("way %d, version %q: Right tells %v, Write %v, error %d", other+way, v, arc.Right(p), b, e)
				}
			}
		}
	}
}

func TestPathsOfFiles(t *testing.T) {
	for s, ok := range map[string]bool{
		"/f": true, "/a/b/c/d/e": true, "/abcdefghijkl/abcdefghijkl/abcdefghijkl/": false, "/abcdefghijkl/abcdefghijkl/abcdefghijkl": true,
		"/abcdefghijkl/abcdefghijkl/abcdefghij/ab": true, "/abcdefghijkl/abcdefghijkl/abcdefghij/abc": false,
		"": false, "/": false, "//": false, "f": false, "f/": false, "/f/": false, "//f": false, "/f//g": false, "/.": false, "/..": false, "/f/..": false, "/F": false, "/a b": false, "/abcdefghijklm": false, "/a/b/c/d/e/f": false, "/\xff": false, "/f\n": false,
		"/var": false, "/var/": false, "/var/f": false, "/var/db": false, "/var/a/b/c/d": false,
		"/vars": true, "/va": true, "/va/r": true, "/var-": true, "/var.": true, "/var_/f": true, "/var0": true, "/vars/f": true, "/a/var": true, "/a/var/f": true, "/v": true, "/var.d/var": true,
	} {
		for _, config := range []bool{false, true} {
			p := files(s)
			p.Files[0].Config = config
			is(t, "a file at "+s, ok, p)
		}
	}
	is(t, "/var behind another file", false, files("/a", "/var"))
	is(t, "within /var behind another file", false, files("/a", "/var/f"))
	is(t, "what begins like /var", true, files("/va", "/var-", "/var.", "/var0/f", "/vars"))
}

func TestOrderOfFiles(t *testing.T) {
	for _, c := range []struct {
		ok    bool
		paths string
	}{
		{true, "/a /b"}, {false, "/b /a"}, {false, "/a /a"}, {true, "/a /aa /b"}, {false, "/a /b /aa"}, {false, "/a /b /a"}, {false, "/a /b /b"}, {false, "/b /a /c"}, {false, "/a /c /b"},
		{true, "/a/b /a/c"}, {false, "/a/c /a/b"}, {false, "/a/b /a/b"}, {true, "/a-/b /a/b"}, {false, "/a/b /a-/b"}, {true, "/10 /9"}, {false, "/9 /10"},
		{false, "/a /a/b"}, {false, "/a/b /a"}, {false, "/a /a/b/c/d/e"}, {false, "/a/b /a/b/c"}, {true, "/a/b /a/bc /b"}, {true, "/a /ab/c"},
		// - and . stand ahead of /.
		{false, "/a /a- /a/b"}, {false, "/a /a-b/c /a/b"}, {false, "/a /a. /a/b"}, {false, "/a /a- /a-b /a. /a.b /a/b/c"}, {true, "/a- /a. /a/b /a0"}, {true, "/a /a- /a-b /a. /a.b /a0/b"}, {false, "/0 /a/b /a/b-c /a/b.c/d /a/b/c /c"},
		{true, "/a/a /b/a /c/a"}, {true, "/a/b/c /b/b/c/d"},
	} {
		is(t, c.paths, c.ok, files(strings.Split(c.paths, " ")...))
	}
}

func TestHowLongFilesAndUnitsMayBe(t *testing.T) {
	for _, n := range []int{0, 1, 299, 300, 301, 302, 511, 512, 513, 514, 600, 1000, 4096, 70000} {
		for at := range 3 {
			is(t, "a file's bytes", n <= 512, turned(func(p *arc.Pkg) { p.Files[at].Data = bytes.Repeat([]byte{0xff}, n) }))
		}
		for at := range 2 {
			is(t, "a unit's bytes", n <= 300, turned(func(p *arc.Pkg) { p.Units[at] = strings.Repeat("\xff", n) }))
		}
	}
	is(t, "units of any bytes", true, units("\x00", "\xff\xfe", " \n\n", "unit"))
}

func TestSum(t *testing.T) {
	for _, b := range []string{"", "\x00", "\x00\x00", "\x00\x00\x00", "abc", "\x01\x00\x00\x00", "\xff\xff\xff\xff", "\x00\x00\x00\x00\x00"} {
		if e := taken(t, "bytes without a right sum", []byte(b)); e != api.ErrSum {
			t.Errorf("%q: the error is %d", b, e)
		}
	}
	// Nothing has the sum 0.
	if e := taken(t, "the sum of nothing", make([]byte, 4)); e != api.ErrForm {
		t.Errorf("the sum of nothing: the error is %d", e)
	}
	for _, p := range []arc.Pkg{with(), full()} {
		b := written(t, p)
		for n := range b {
			if e := taken(t, "cut off", b[:n]); e != api.ErrSum {
				t.Errorf("cut off at %d: the error is %d", n, e)
			}
		}
		if e := taken(t, "too long", append(b, 0)); e != api.ErrSum {
			t.Errorf("too long: the error is %d", e)
		}
		if e := taken(t, "the sum turned round", append(b[:len(b)-4:len(b)-4], b[len(b)-1], b[len(b)-2], b[len(b)-3], b[len(b)-4])); e != api.ErrSum {
			t.Errorf("the sum turned round: the error is %d", e)
		}
	}
}

func TestEachByteTurned(t *testing.T) {
	b := written(t, full())
	for at := range b {
		for turn := 1; turn < 256; turn++ {
			c := bytes.Clone(b)
			c[at] ^= byte(turn)
			if p, e := arc.Read(c); e != api.ErrSum || !same(p, arc.Pkg{}) {
				t.Errorf("the byte %d turned by %d: %v, error %d", at, turn, p, e)
			}
		}
	}
}

func TestEachByteTurnedWithARightSum(t *testing.T) {
	b := body(full())
	good := 0
	for at := range b {
		for turn := 1; turn < 256; turn++ {
			c := bytes.Clone(b)
			c[at] ^= byte(turn)
			if taken(t, "a byte turned", summed(c)) == api.OK {
				good++
			}
		}
	}
	if good == 0 || good > len(b)*255/2 {
		t.Errorf("%d are right packages", good)
	}
}

func TestCutOffAndTooLongWithARightSum(t *testing.T) {
	for _, p := range []arc.Pkg{with(), full()} {
		b := body(p)
		for n := range b {
			if e := taken(t, "cut off", summed(b[:n])); e != api.ErrForm {
				t.Errorf("cut off at %d: the error is %d", n, e)
			}
			if e := taken(t, "without its first bytes", summed(b[n+1:])); e != api.ErrForm {
				t.Errorf("without %d bytes: the error is %d", n+1, e)
			}
		}
		for _, more := range []string{"\x00", "\x00\x00\x00\x00", "a", "\x01\x00\x00\x00a", string(b), string(summed(b)[len(b):])} {
			if e := taken(t, "too long", summed(append(bytes.Clone(b), more...))); e != api.ErrForm {
				t.Errorf("%q behind it: the error is %d", more, e)
			}
		}
	}
}

func TestFlagIsNoughtOrOne(t *testing.T) {
	for _, flag := range []int{0, 1, 2, 3, 255, 256, 257, 1 << 16, 1 << 24, 1<<24 + 1, 1<<31 - 1, 1 << 31, 1<<31 + 1, 1<<32 - 1} {
		file := list(text("/f"), number(flag), text("x"))
		b := bytes.Join([][]byte{text("a"), text("1"), list(), list(), file, list()}, nil)
		want := api.OK
		if flag > 1 {
			want = api.ErrForm
		}
		if e := taken(t, "a flag", summed(b)); e != want {
			t.Errorf("the flag %d: the error is %d", flag, e)
		}
		if p, e := arc.Read(summed(b)); e == api.OK && p.Files[0].Config != (flag == 1) {
			t.Errorf("the flag %d: Config is %v", flag, p.Files[0].Config)
		}
	}
}

func TestBytesThatAreNoPackage(t *testing.T) {
	a, one, none := text("a"), text("1"), list()
	for i, parts := range [][][]byte{
		{}, {a}, {a, one}, {a, one, none}, {a, one, none, none}, {a, one, none, none, none},
		{a, one, none, none, none, none, none},
		{one, a, none, none, none, none},
		{list(a, one), none, none, none, none},
		// Parts that a list ends within, and more than they should be.
		{a, one, list(text("b")), none, none, none},
		{a, one, list(text("b"), number(0)), none, none, none},
		{a, one, list(text("b"), number(0), none, none), none, none, none},
		{a, one, list(text("b"), number(0), none, text("c")), none, none, none},
		{a, one, list(list(text("b"), number(0), none)), none, none, none},
		{a, one, list([]byte{0}), none, none, none},
		{a, one, list(text("b"), number(0), none, []byte{0}), none, none, none},
		{a, one, none, list([]byte{0, 0, 0}), none, none},
		{a, one, none, list(none), none, none},
		{a, one, none, list(text("b"), []byte{1, 0, 0, 0}), none, none},
		{a, one, none, list(text("b"), []byte{5, 0, 0, 0, 'c'}), none, none},
		{a, one, none, none, list(text("/f")), none},
		{a, one, none, none, list(text("/f"), number(0)), none},
		{a, one, none, none, list(text("/f"), number(0), number(1)), none},
		{a, one, none, none, list(text("/f"), text("x"), number(0)), none},
		{a, one, none, none, list(text("/f"), number(0), text("x"), number(0)), none},
		{a, one, none, none, none, list([]byte{0})},
		{a, one, none, none, none, list([]byte{1, 0, 0, 0})},
		{a, one, none, none, none, list(none, []byte{0xff, 0xff, 0xff, 0xff})},
		// Lengths that are greater than what is there.
		{number(-1)}, {number(1 << 31)}, {a, number(1 << 30)},
		{a, one, number(-1), none, none, none}, {a, one, number(1 << 24), none, none, none}, {a, one, none, none, none, number(1)},
		// Orders in which no lists stand.
		{a, one, none, none, list(text("b"), number(0), none), none},
		{a, one, list(text("/f"), number(0), text("x")), none, none, none},
		{a, one, list(text("b")), list(text("b"), number(0), none), none, none},
		{make([]byte, 24)}, {bytes.Repeat([]byte{1}, 64)}, {bytes.Repeat([]byte{0xff}, 64)},
	} {
		if e := taken(t, "no package", summed(bytes.Join(parts, nil))); e != api.ErrForm {
			t.Errorf("case %d: the error is %d", i, e)
		}
	}
}

func TestLongBytes(t *testing.T) {
	a, one, none := text("a"), text("1"), list()
	for _, long := range []int{1 << 16, 1 << 24} {
		zeroes := text(string(make([]byte, long)))
		for at := range 6 {
			parts := [][]byte{a, one, none, none, none, none}
			parts[at] = zeroes
			b := summed(bytes.Join(parts, nil))
			if p, e := arc.Read(b); e != api.ErrForm || !same(p, arc.Pkg{}) {
				t.Errorf("%d noughts as the part %d: error %d", long, at, e)
			}
		}
	}
}

func TestLongTexts(t *testing.T) {
	for _, s := range []string{"a", "1", "/", "/a", ".", "1.", "-", "\x00"} {
		long := strings.Repeat(s, 1<<18/len(s))
		for what, turn := range map[string]func(p *arc.Pkg){
			"its name":         func(p *arc.Pkg) { p.Name = long },
			"its version":      func(p *arc.Pkg) { p.Version = long },
			"a need's name":    func(p *arc.Pkg) { p.Needs[1].Name = long },
			"a need's version": func(p *arc.Pkg) { p.Needs[1].Ver = long },
			"a conflict":       func(p *arc.Pkg) { p.Conflicts[1] = long },
			"a file's path":    func(p *arc.Pkg) { p.Files[0].Path = long },
			"a unit":           func(p *arc.Pkg) { p.Units[1] = long },
		} {
			is(t, what+" of "+s+" again and again", false, turned(turn))
		}
	}
}

func TestWhatIsToldIsNewMemory(t *testing.T) {
	p := full()
	b := written(t, p)
	keep := string(b)
	for i := range p.Files {
		for j := range p.Files[i].Data {
			p.Files[i].Data[j]++
		}
		p.Files[i].Path = "/x"
	}
	p.Needs[0], p.Conflicts[0], p.Units[0] = arc.Need{}, "", ""
	if string(b) != keep {
		t.Error("a package that is turned turns its bytes")
	}
	q, _ := arc.Read(b)
	other, _ := arc.Read(b)
	clear(b)
	if !same(q, full()) {
		t.Error("bytes that are turned turn the package")
	}
	again := written(t, q)
	clear(again)
	q.Needs[0], q.Conflicts[0], q.Units[0] = arc.Need{}, "", ""
	for i := range q.Files {
		clear(q.Files[i].Data)
		// What is behind one file's bytes is no other one's.
		q.Files[i].Data = append(q.Files[i].Data, "more, and more, and more"...)
	}
	q.Files[0] = arc.File{}
	if !same(other, full()) {
		t.Error("a package that is turned turns another one of the same bytes")
	}
	if string(written(t, other)) != keep {
		t.Error("what is written was turned")
	}
}

func TestFilesOfOnePackageShareNothing(t *testing.T) {
	q, _ := arc.Read(written(t, full()))
	q.Files[0].Data = append(q.Files[0].Data, "more"...)
	_ = append(q.Files[0].Data[:0], "twelve bytes, and some more of them, and more"...)
	if s := string(q.Files[1].Data); s != "port 80\n" {
		t.Errorf("the second file has %q", s)
	}
}

func TestRandomPackages(t *testing.T) {
	m := maker{rand.New(rand.NewSource(10))}
	right := 0
	for range 20000 {
		if asked(t, "a random package", m.pkg()) {
			right++
		}
	}
	if right < 5000 || right > 18000 {
		t.Errorf("%d random packages are right", right)
	}
}

func TestRandomBytes(t *testing.T) {
	m := maker{rand.New(rand.NewSource(11))}
	told := map[api.Errno]int{}
	for range 40000 {
		b := body(m.pkg())
		for range m.Intn(3) {
			switch at := m.Intn(len(b)); m.Intn(4) {
			case 0:
				b[at] = byte(m.Intn(6))
			case 1:
				b = append(b[:at], b[at+1:]...)
			case 2:
				b = append(b[:at], append([]byte{byte(m.Intn(3))}, b[at:]...)...)
			case 3:
				b[at] ^= 1 << m.Intn(8)
			}
		}
		if m.Intn(20) > 0 {
			b = summed(b)
		}
		told[taken(t, "random bytes", b)]++
	}
	for _, e := range []api.Errno{api.OK, api.ErrSum, api.ErrForm} {
		if told[e] < 500 {
			t.Errorf("the error %d was told %d times", e, told[e])
		}
	}
}
