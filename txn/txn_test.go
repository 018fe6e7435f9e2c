package txn_test

import (
	"bytes"
	"math"
	"slices"
	"strconv"
	"strings"
	"testing"

	"farrier/api"
	"farrier/rec"
	"farrier/txn"
)

// full is an upgrade with something of all there may be.
func full() txn.Txn {
	return txn.Txn{
		Phase: txn.Swapping, At: 2,
		Moves: []txn.Move{{Kind: txn.Dir, Path: "/bin"}, {Kind: txn.Put, Path: "/bin/web"}, {Kind: txn.Drop, Path: "/etc/x.old"}},
		Come:  []string{"web", "lib"},
		Go:    []string{"old-web"},
	}
}

// turned is the full upgrade, with one thing of it turned.
func turned(turn func(x *txn.Txn)) txn.Txn {
	x := full()
	turn(&x)
	return x
}

// moves is so many moves, names so many names, beginning with a letter.
func moves(many int) []txn.Move {
	var list []txn.Move
	for i := range many {
		list = append(list, txn.Move{Kind: i % 3, Path: "/d/f" + strconv.Itoa(i)})
	}
	return list
}

func names(letter string, many int) []string {
	var list []string
	for i := range many {
		list = append(list, letter+strconv.Itoa(i))
	}
	return list
}

// same tells whether two upgrades are the same; a nil list and an empty one are.
func same(x, y txn.Txn) bool {
	return x.Phase == y.Phase && x.At == y.At &&
		slices.Equal(x.Moves, y.Moves) && slices.Equal(x.Come, y.Come) && slices.Equal(x.Go, y.Go)
}

// is holds an upgrade to be one that may be, or not; the bytes of one that may be are unpacked as it, those of another one aren't unpacked.
func is(t *testing.T, what string, want bool, x txn.Txn) {
	t.Helper()
	if got := x.Right(); got != want {
		t.Errorf("%s: Right tells %v", what, got)
	}
	if want {
		unpacked(t, what, x.Pack(), x)
	} else {
		refused(t, what, x.Pack())
	}
}

func unpacked(t *testing.T, what string, b []byte, want txn.Txn) {
	t.Helper()
	if got, e := txn.Unpack(b); e != api.OK || !same(got, want) {
		t.Errorf("%s: Unpack tells %#v, %d", what, got, e)
	}
}

func refused(t *testing.T, what string, b []byte) {
	t.Helper()
	got, e := txn.Unpack(b)
	if e != api.ErrForm {
		t.Errorf("%s: Unpack tells %#v, %d", what, got, e)
	}
	if !same(got, txn.Txn{}) {
		t.Errorf("%s: beside the error Unpack tells %#v", what, got)
	}
}

func TestExampleOfAnUpgradeByWhichOneComes(t *testing.T) {
	x := txn.Txn{Moves: []txn.Move{{Kind: txn.Put, Path: "/f"}}, Come: []string{"a"}}
	want := []byte{
		0, 0, 0, 0, 0, 0, 0, 0,
		10, 0, 0, 0, 1, 0, 0, 0, 2, 0, 0, 0, '/', 'f',
		5, 0, 0, 0, 1, 0, 0, 0, 'a',
		0, 0, 0, 0,
	}
	if got := x.Pack(); len(got) != 35 || !bytes.Equal(got, want) {
		t.Errorf("its bytes are %v", got)
	}
	is(t, "the example", true, x)
}

func TestTheNumbersOfPhasesAndMoves(t *testing.T) {
	if got := []int{txn.Staging, txn.Swapping, txn.Restarting, txn.Undoing, txn.Back}; !slices.Equal(got, []int{0, 1, 2, 3, 4}) {
		t.Errorf("phases are %v", got)
	}
	if got := []int{txn.Dir, txn.Put, txn.Drop}; !slices.Equal(got, []int{0, 1, 2}) {
		t.Errorf("kinds are %v", got)
	}
}

func TestTheBytesOfAFullOne(t *testing.T) {
	move := func(kind int, path string) rec.Part { return rec.Pack(rec.Num(kind), rec.Text(path)) }
	want := rec.Pack(
		rec.Num(1), rec.Num(2),
		rec.List(move(0, "/bin"), move(1, "/bin/web"), move(2, "/etc/x.old")),
		rec.List(rec.Text("web"), rec.Text("lib")),
		rec.List(rec.Text("old-web")),
	)
	if got := full().Pack(); !bytes.Equal(got, want) {
		t.Errorf("its bytes are %v", got)
	}
	is(t, "a full one", true, full())
}

func TestTheBytesOfNothing(t *testing.T) {
	want := make([]byte, 20)
	if got := (txn.Txn{}).Pack(); !bytes.Equal(got, want) {
		t.Errorf("its bytes are %v", got)
	}
	is(t, "the zero one", true, txn.Txn{})
	is(t, "one of empty lists", true, txn.Txn{Moves: []txn.Move{}, Come: []string{}, Go: []string{}})
	unpacked(t, "twenty noughts", want, txn.Txn{})
}

// The bytes of one that may not be are told, too.
func TestTheBytesOfWhatMayNotBe(t *testing.T) {
	x := txn.Txn{Phase: -1, At: 1 << 33, Moves: []txn.Move{{Kind: -2, Path: ""}}, Come: []string{"\xff "}, Go: []string{""}}
	want := []byte{
		255, 255, 255, 255, 0, 0, 0, 0,
		8, 0, 0, 0, 254, 255, 255, 255, 0, 0, 0, 0,
		6, 0, 0, 0, 2, 0, 0, 0, 255, ' ',
		4, 0, 0, 0, 0, 0, 0, 0,
	}
	if got := x.Pack(); !bytes.Equal(got, want) {
		t.Errorf("its bytes are %v", got)
	}
	is(t, "one of which nothing may be", false, x)
}

func TestPhases(t *testing.T) {
	for _, c := range []struct {
		phase int
		want  bool
	}{
		{0, true}, {1, true}, {2, true}, {3, true}, {4, true},
		{5, false}, {6, false}, {-1, false}, {255, false}, {math.MaxInt32, false}, {math.MinInt32, false},
	} {
		is(t, "the phase "+strconv.Itoa(c.phase), c.want, turned(func(x *txn.Txn) { x.Phase = c.phase }))
	}
	// Of their numbers the lowest four bytes are kept, so that those of a phase may be theirs.
	for _, n := range []int{math.MinInt, math.MaxInt, 1 << 32, 1<<32 + 1, -1 << 32} {
		if x := turned(func(x *txn.Txn) { x.Phase = n }); x.Right() {
			t.Errorf("the phase %d may be", n)
		}
	}
}

func TestHowManyMovesAreDone(t *testing.T) {
	for _, many := range []int{0, 1, 2, 3, 39, 40} {
		for at := -2; at <= 42; at++ {
			is(t, strconv.Itoa(at)+" of "+strconv.Itoa(many), at >= 0 && at <= many, txn.Txn{At: at, Moves: moves(many)})
		}
		for _, at := range []int{math.MinInt, math.MaxInt, 1 << 32} {
			if (txn.Txn{At: at, Moves: moves(many)}).Right() {
				t.Errorf("%d of %d moves may be done", at, many)
			}
		}
	}
}

func TestHowManyMovesThereAre(t *testing.T) {
	for many := range 100 {
		is(t, strconv.Itoa(many)+" moves", many <= 40, txn.Txn{Moves: moves(many)})
	}
	is(t, "very many moves", false, txn.Txn{Moves: moves(5000)})
}

func TestKindsOfMoves(t *testing.T) {
	for kind := -3; kind <= 9; kind++ {
		for at := range 3 {
			x := turned(func(x *txn.Txn) { x.Moves[at].Kind = kind })
			is(t, "the kind "+strconv.Itoa(kind)+" of the move "+strconv.Itoa(at), kind >= 0 && kind <= 2, x)
		}
	}
	for _, kind := range []int{math.MinInt, math.MaxInt, 1 << 32, 1<<32 + 1} {
		if x := turned(func(x *txn.Txn) { x.Moves[2].Kind = kind }); x.Right() {
			t.Errorf("the kind %d may be", kind)
		}
	}
}

func TestPathsOfMoves(t *testing.T) {
	forty := "/abcdefghijkl/abcdefghijkl/abcdefghijkl/"
	for _, c := range []struct {
		path string
		want bool
	}{
		{"/f", true}, {"/a/b/c/d/e", true}, {"/var", true}, {"/var/stage/1", true}, {"/a-b_c.9", true}, {forty[:39], true},
		{"/abcdefghijk/abcdefghijk/abcdefghijk/abc", true}, {"/abcdefghijk/abcdefghijk/abcdefghijk/abcd", false},
		{"/abcdefghijkl", true}, {"/abcdefghijklm", false},
		{"/", false}, {"", false}, {"f", false}, {"/f/", false}, {"//f", false}, {"/a/b/c/d/e/f", false}, {"/F", false}, {"/.", false}, {"/..", false}, {"/a/../b", false}, {"/ä", false}, {"/a b", false}, {"/\xff", false}, {"/a\x00", false}, {forty, false}, {strings.Repeat("/a", 3000), false},
	} {
		for kind := range 3 {
			is(t, strconv.Quote(c.path), c.want, txn.Txn{Moves: []txn.Move{{Kind: kind, Path: c.path}}})
		}
		for at := range 3 {
			is(t, strconv.Quote(c.path)+" among others", c.want, turned(func(x *txn.Txn) { x.Moves[at].Path = c.path }))
		}
	}
	is(t, "one path twice", true, turned(func(x *txn.Txn) { x.Moves[2].Path = x.Moves[1].Path }))
}

func TestNamesOfPackages(t *testing.T) {
	for _, c := range []struct {
		name string
		want bool
	}{
		{"a", true}, {"lib-2.0_x", true}, {"...", true}, {"-", true}, {"0", true}, {"abcdefghijkl", true},
		{"abcdefghijklm", false}, {"", false}, {".", false}, {"..", false}, {"A", false}, {"a b", false}, {"/a", false}, {"a/b", false}, {"ä", false}, {"\xff", false}, {"a\n", false}, {strings.Repeat("a", 5000), false},
	} {
		is(t, strconv.Quote(c.name)+" comes", c.want, txn.Txn{Come: []string{c.name}})
		is(t, strconv.Quote(c.name)+" goes", c.want, txn.Txn{Go: []string{c.name}})
		is(t, strconv.Quote(c.name)+" comes, as the last one", c.want, turned(func(x *txn.Txn) { x.Come[1] = c.name }))
		is(t, strconv.Quote(c.name)+" goes, as the last one", c.want, turned(func(x *txn.Txn) { x.Go = append(x.Go, c.name) }))
		is(t, strconv.Quote(c.name)+" goes, as the first one", c.want, turned(func(x *txn.Txn) { x.Go = []string{c.name, "a"} }))
	}
	is(t, "one name twice, and once more", true, txn.Txn{Come: []string{"a", "a"}, Go: []string{"a"}})
}

func TestHowManyPackagesComeAndGo(t *testing.T) {
	for come := range 28 {
		for gone := range 28 {
			x := txn.Txn{Come: names("c", come), Go: names("g", gone)}
			is(t, strconv.Itoa(come)+" come, "+strconv.Itoa(gone)+" go", come+gone <= 24, x)
		}
	}
	is(t, "very many come", false, txn.Txn{Come: names("c", 5000)})
	is(t, "very many go", false, txn.Txn{Go: names("g", 5000)})
}

func TestTheGreatestOneThereMayBe(t *testing.T) {
	x := txn.Txn{Phase: txn.Back, At: 40}
	for i := range 40 {
		x.Moves = append(x.Moves, txn.Move{Kind: i % 3, Path: "/abcdefghijk/abcdefghijk/abcdefghijk/a" + strconv.Itoa(10+i)})
	}
	for i := range 12 {
		x.Come = append(x.Come, "abcdefghij"+strconv.Itoa(10+i))
		x.Go = append(x.Go, "bcdefghijk"+strconv.Itoa(10+i))
	}
	is(t, "the greatest one", true, x)
	if got := len(x.Pack()); got != 20+40*48+24*16 {
		t.Errorf("it has %d bytes", got)
	}
}

func TestBytesThatAreNone(t *testing.T) {
	b := full().Pack()
	for i := range b {
		refused(t, "the first "+strconv.Itoa(i)+" bytes", b[:i])
		refused(t, "all but the first "+strconv.Itoa(i+1)+" bytes", b[i+1:])
	}
	refused(t, "nothing", nil)
	refused(t, "one byte more", slices.Concat(b, []byte{0}))
	refused(t, "a list more", slices.Concat(b, rec.List()))
	refused(t, "twice the bytes", slices.Concat(b, b))
	refused(t, "much text", bytes.Repeat([]byte("farrier "), 1000))
	refused(t, "the greatest bytes", bytes.Repeat([]byte{255}, 100))
}

func TestListsThatAreNone(t *testing.T) {
	head := rec.Pack(rec.Num(0), rec.Num(0))
	move := rec.Pack(rec.Num(1), rec.Text("/f"))
	none, some := rec.List(), rec.List(rec.Text("a"))
	for what, b := range map[string][]byte{
		"a move without its path":             rec.Pack(head, rec.List(rec.Num(1)), none, none),
		"a move without its kind":             rec.Pack(head, rec.List(rec.Text("/f")), none, none),
		"a byte behind a move":                rec.Pack(head, rec.List(move, rec.Part{0}), none, none),
		"a move behind a spoilt one":          rec.Pack(head, rec.List(rec.Num(3), rec.Text("/f"), move), none, none),
		"a path that is longer than the list": rec.Pack(head, rec.List(rec.Num(1), rec.Num(9), rec.Part("/f")), none, none),
		"a byte behind a name that comes":     rec.Pack(head, none, rec.List(rec.Text("a"), rec.Part{0}), none),
		"a byte behind a name that goes":      rec.Pack(head, none, none, rec.List(rec.Text("a"), rec.Part{0})),
		"a name that is longer than the list": rec.Pack(head, none, rec.List(rec.Num(9), rec.Part("a")), none),
		"a number in the place of a name":     rec.Pack(head, none, rec.List(rec.Num(7)), none),
		"two lists":                           rec.Pack(head, none, some),
		"four lists":                          rec.Pack(head, none, some, none, none),
		"a list that is longer than all":      rec.Pack(head, none, none, rec.Num(99), rec.Text("a")),
		"a list that is shorter than a name":  rec.Pack(head, none, none, rec.Num(4), rec.Text("a")),
		"a phase alone":                       rec.Num(0),
	} {
		refused(t, what, b)
	}
	unpacked(t, "one of these", rec.Pack(head, rec.List(move), some, none), txn.Txn{Moves: []txn.Move{{Kind: txn.Put, Path: "/f"}}, Come: []string{"a"}})
}

// Whatever bytes are unpacked are those that are packed of it.
func TestBytesOfWhichOneIsTurned(t *testing.T) {
	b := full().Pack()
	taken := 0
	for i := range b {
		for v := range 256 {
			c := slices.Clone(b)
			c[i] = byte(v)
			x, e := txn.Unpack(c)
			switch e {
			case api.OK:
				if !x.Right() || !bytes.Equal(x.Pack(), c) {
					t.Errorf("with %d in the place %d %#v is unpacked", v, i, x)
				}
				taken++
			case api.ErrForm:
				if !same(x, txn.Txn{}) {
					t.Errorf("with %d in the place %d an error is told, and %#v", v, i, x)
				}
			default:
				t.Errorf("with %d in the place %d %d is told", v, i, e)
			}
		}
	}
	if taken < len(b) {
		t.Errorf("only %d of all are unpacked", taken)
	}
}

func TestWhatIsToldIsNewMemory(t *testing.T) {
	x := full()
	b := x.Pack()
	y, _ := txn.Unpack(b)
	z, _ := txn.Unpack(b)
	clear(b)
	if !same(y, x) {
		t.Error("bytes that were handed in turn what was told")
	}
	y.Moves[0].Path, y.Come[0], y.Go[0] = "/", "", ""
	if !same(z, x) || !same(x, full()) {
		t.Error("what was told shares memory with another one")
	}
	y.Come = append(y.Come, "more")
	if z.Pack(); !slices.Equal(z.Go, x.Go) {
		t.Error("one list of what was told shares memory with the next")
	}
	b = x.Pack()
	clear(b)
	if !bytes.Equal(x.Pack(), full().Pack()) || !same(x, full()) {
		t.Error("bytes that were told share memory")
	}
}
