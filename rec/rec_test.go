package rec_test

import (
	"bytes"
	"encoding/binary"
	"math"
	"math/rand"
	"strings"
	"testing"

	"farrier/api"
	"farrier/rec"
)

// mostList is how many bytes a list may have that is taken.
const mostList = 1 << 24

// same holds a record's bytes against those that it should have.
func same(t *testing.T, what string, got, want []byte) {
	t.Helper()
	if !bytes.Equal(got, want) {
		t.Errorf("%s is %v, not %v", what, got, want)
	}
}

// stands holds what a reader is asked of its state against what it should tell.
func stands(t *testing.T, what string, r *rec.Reader, more, good bool) {
	t.Helper()
	done, e := good && !more, api.ErrForm
	if done {
		e = api.OK
	}
	if r.More() != more || r.Good() != good || r.Done() != done || r.Err() != e {
		t.Errorf("%s: more %v, good %v, done %v, error %d; it should be more %v, good %v", what, r.More(), r.Good(), r.Done(), r.Err(), more, good)
	}
}

// spoilt holds a reader to be one of which nothing is good any more, whatever is asked of it, in every order.
func spoilt(t *testing.T, what string, r *rec.Reader) {
	t.Helper()
	for range 2 {
		stands(t, what, r, false, false)
		if n := r.Num(math.MaxInt); n != 0 {
			t.Errorf("%s: the number %d is taken", what, n)
		}
		if b := r.Raw(math.MaxInt); len(b) != 0 {
			t.Errorf("%s: the bytes %v are taken", what, b)
		}
		if s := r.Text(math.MaxInt); s != "" {
			t.Errorf("%s: the text %q is taken", what, s)
		}
		if r.Truth() {
			t.Errorf("%s: a truth is taken", what)
		}
		l := r.List()
		stands(t, what+": its list", l, false, false)
		if l.Num(math.MaxInt) != 0 || len(l.Raw(math.MaxInt)) != 0 || l.Text(math.MaxInt) != "" || l.Truth() {
			t.Errorf("%s: its list has a part", what)
		}
		stands(t, what+": a list's list", l.List(), false, false)
	}
}

func TestExampleOfEighteenBytes(t *testing.T) {
	got := rec.Pack(rec.Num(258), rec.Text("ab"), rec.List(rec.Num(1)))
	same(t, "the record", got, []byte{2, 1, 0, 0, 2, 0, 0, 0, 'a', 'b', 4, 0, 0, 0, 1, 0, 0, 0})
	r := rec.Read(got)
	if n, s := r.Num(258), r.Text(2); n != 258 || s != "ab" {
		t.Errorf("%d and %q are taken", n, s)
	}
	l := r.List()
	if n := l.Num(1); n != 1 {
		t.Errorf("the list's number is %d", n)
	}
	stands(t, "the list", l, false, true)
	stands(t, "the record", r, false, true)
}

func TestNumIsModulo2To32LowestFirst(t *testing.T) {
	for _, c := range []struct {
		n    int
		want []byte
	}{
		{0, []byte{0, 0, 0, 0}},
		{1, []byte{1, 0, 0, 0}},
		{255, []byte{255, 0, 0, 0}},
		{256, []byte{0, 1, 0, 0}},
		{1 << 16, []byte{0, 0, 1, 0}},
		{0x04030201, []byte{1, 2, 3, 4}},
		{1<<31 - 1, []byte{255, 255, 255, 127}},
		{1 << 31, []byte{0, 0, 0, 128}},
		{1<<32 - 1, []byte{255, 255, 255, 255}},
		{1 << 32, []byte{0, 0, 0, 0}},
		{1<<32 + 258, []byte{2, 1, 0, 0}},
		{math.MaxInt, []byte{255, 255, 255, 255}},
		{-1, []byte{255, 255, 255, 255}},
		{-2, []byte{254, 255, 255, 255}},
		{-1 << 31, []byte{0, 0, 0, 128}},
		{-1 << 32, []byte{0, 0, 0, 0}},
		{math.MinInt, []byte{0, 0, 0, 0}},
		{math.MinInt + 7, []byte{7, 0, 0, 0}},
	} {
		same(t, "a number", rec.Num(c.n), c.want)
		want := int(binary.LittleEndian.Uint32(c.want))
		r := rec.Read(rec.Num(c.n))
		if got := r.Num(1<<32 - 1); got != want {
			t.Errorf("%d is taken as %d, not %d", c.n, got, want)
		}
		stands(t, "a number", r, false, true)
	}
}

func TestBytesAndTextsHaveTheirLengthAhead(t *testing.T) {
	for _, s := range []string{"", "a", "\x00", "\x00\x00\x00\x00", "a\nb", "\xff\xfe", "\u00e9\u4e16", strings.Repeat("x", 255), strings.Repeat("y", 300), strings.Repeat("z", 70000)} {
		want := append(binary.LittleEndian.AppendUint32(nil, uint32(len(s))), s...)
		same(t, "bytes", rec.Raw([]byte(s)), want)
		same(t, "a text", rec.Text(s), want)
		same(t, "a list of a part", rec.List(rec.Part(s)), want)
		r := rec.Read(rec.Pack(rec.Raw([]byte(s)), rec.Text(s)))
		same(t, "bytes that are taken", r.Raw(len(s)), []byte(s))
		if got := r.Text(len(s)); got != s {
			t.Errorf("%q is taken as %q", s, got)
		}
		stands(t, "both", r, false, true)
	}
	same(t, "no bytes", rec.Raw(nil), make([]byte, 4))
}

func TestPartsAreOneBehindTheOther(t *testing.T) {
	same(t, "no part", rec.Pack(), nil)
	same(t, "empty parts", rec.Pack(nil, rec.Part{}, nil), nil)
	same(t, "a list of no part", rec.List(), make([]byte, 4))
	same(t, "a list of empty parts", rec.List(nil, rec.Part{}), make([]byte, 4))
	same(t, "parts", rec.Pack(rec.Part("b"), nil, rec.Part("ac")), []byte("bac"))
	same(t, "a list", rec.List(rec.Part("b"), nil, rec.Part("ac")), []byte("\x03\x00\x00\x00bac"))
	same(t, "lists in lists", rec.List(rec.List(), rec.List(rec.Text("a"))), []byte{
		13, 0, 0, 0, 0, 0, 0, 0, 5, 0, 0, 0, 1, 0, 0, 0, 'a'})
	parts := make([]rec.Part, 1000)
	var want []byte
	for i := range parts {
		parts[i] = rec.Num(i)
		want = binary.LittleEndian.AppendUint32(want, uint32(i))
	}
	same(t, "a thousand parts", rec.Pack(parts...), want)
	same(t, "their list", rec.List(parts...), append([]byte{160, 15, 0, 0}, want...))
}

func TestNumTakesUpToItsBound(t *testing.T) {
	for _, n := range []int{0, 1, 2, 255, 256, 1<<31 - 1, 1 << 31, 1<<32 - 1} {
		for _, most := range []int{math.MinInt, -1, 0, n - 1, n, n + 1, 1<<32 - 1, 1 << 32, math.MaxInt} {
			r := rec.Read(rec.Pack(rec.Num(n), rec.Num(3)))
			got := r.Num(most)
			if n > most {
				if got != 0 {
					t.Errorf("%d is taken of %d, of at most %d", got, n, most)
				}
				spoilt(t, "a greater number", r)
				continue
			}
			if got != n {
				t.Errorf("%d is taken as %d", n, got)
			}
			stands(t, "behind a number", r, true, true)
			if got := r.Num(3); got != 3 {
				t.Errorf("the next number is %d, not 3", got)
			}
			stands(t, "behind both", r, false, true)
		}
	}
}

func TestFewerThanFourBytesAreNoNumber(t *testing.T) {
	for n := range 4 {
		for kind := range kinds {
			r := rec.Read(make([]byte, n))
			stands(t, "ahead", r, n > 0, true)
			if take(r, kind, math.MaxInt) != "" {
				t.Errorf("of %d bytes a part of kind %d is taken", n, kind)
			}
			spoilt(t, "behind fewer bytes", r)
		}
	}
}

// kinds is how many calls take a part; take makes one of them, and tells what is taken as text (nothing, if nothing is).
const kinds = 5

func take(r *rec.Reader, kind, most int) string {
	switch kind {
	case 0:
		return strings.Repeat("n", r.Num(most))
	case 1:
		return string(r.Raw(most))
	case 2:
		return r.Text(most)
	case 3:
		l := r.List()
		if l.More() {
			return "list"
		}
	case 4:
		if r.Truth() {
			return "true"
		}
	}
	return ""
}

func TestBytesAndTextsAreTakenUpToTheirBound(t *testing.T) {
	for kind := 1; kind <= 2; kind++ {
		for _, s := range []string{"", "a", "abcd", strings.Repeat("x", 300)} {
			for _, most := range []int{math.MinInt, -1, 0, len(s) - 1, len(s), len(s) + 1, math.MaxInt} {
				r := rec.Read(rec.Pack(rec.Text(s), rec.Num(3)))
				got := take(r, kind, most)
				if len(s) > most {
					if got != "" {
						t.Errorf("%q is taken of %q, of at most %d", got, s, most)
					}
					spoilt(t, "more bytes", r)
					continue
				}
				if got != s {
					t.Errorf("%q is taken as %q", s, got)
				}
				stands(t, "behind bytes", r, true, true)
				if got := r.Num(3); got != 3 {
					t.Errorf("the next number is %d, not 3", got)
				}
			}
		}
	}
}

func TestFewerBytesThanAreToldAreNone(t *testing.T) {
	for _, n := range []int{1, 4, 5, 300, 1<<31 - 1, 1 << 31, 1<<32 - 1} {
		for _, left := range []int{0, 1, n - 1} {
			if left > 300 || left >= n {
				continue
			}
			for kind := 1; kind <= 3; kind++ {
				r := rec.Read(rec.Pack(rec.Num(n), bytes.Repeat([]byte{0}, left)))
				if got := take(r, kind, math.MaxInt); got != "" {
					t.Errorf("%q is taken, where %d of %d bytes are left", got, left, n)
				}
				spoilt(t, "behind fewer bytes than are told", r)
			}
		}
	}
}

func TestListHasAtMost2To24Bytes(t *testing.T) {
	b := make([]byte, mostList-4)
	r := rec.Read(rec.Pack(rec.List(rec.Raw(b)), rec.Num(3)))
	l := r.List()
	stands(t, "a list of 2^24 bytes", l, true, true)
	same(t, "its bytes", l.Raw(len(b)), b)
	stands(t, "behind them", l, false, true)
	if r.Num(3) != 3 || !r.Done() {
		t.Error("the number behind the list isn't taken")
	}
	r = rec.Read(rec.Pack(rec.List(rec.Raw(b), rec.Part{0}), rec.Num(3)))
	spoilt(t, "a list of one byte more", r.List())
	spoilt(t, "what has a list of one byte more", r)
}

func TestTruthIsANumberOfAtMostOne(t *testing.T) {
	r := rec.Read(rec.Pack(rec.Num(1), rec.Num(0), rec.Num(1)))
	if a, b, c := r.Truth(), r.Truth(), r.Truth(); !a || b || !c {
		t.Errorf("1, 0 and 1 are taken as %v, %v and %v", a, b, c)
	}
	stands(t, "behind truths", r, false, true)
	for _, n := range []int{2, 3, 255, 256, 257, 1 << 31, -1} {
		r := rec.Read(rec.Pack(rec.Num(n), rec.Num(1)))
		if r.Truth() {
			t.Errorf("%d is taken as true", n)
		}
		spoilt(t, "behind no truth", r)
	}
}

func TestNothingIsGoodBehindAPartThatIsNone(t *testing.T) {
	good := rec.Pack(rec.Num(1), rec.Num(0), rec.Num(0))
	for name, fail := range map[string]func(r *rec.Reader){
		"a number":  func(r *rec.Reader) { r.Num(4) },
		"bytes":     func(r *rec.Reader) { r.Raw(4) },
		"a text":    func(r *rec.Reader) { r.Text(4) },
		"a list":    func(r *rec.Reader) { spoilt(t, "the list", r.List()) },
		"the truth": func(r *rec.Reader) { r.Truth() },
	} {
		r := rec.Read(rec.Pack(rec.Num(7), rec.Num(99), good))
		if r.Num(7) != 7 {
			t.Error("7 isn't taken")
		}
		fail(r)
		spoilt(t, name, r)
	}
}

func TestStatesOfWhatIsLeft(t *testing.T) {
	stands(t, "no bytes", rec.Read(nil), false, true)
	stands(t, "empty bytes", rec.Read([]byte{}), false, true)
	stands(t, "a byte", rec.Read([]byte{0}), true, true)
	r := rec.Read(rec.Pack(rec.Raw(nil), rec.Text(""), rec.List()))
	same(t, "empty bytes", r.Raw(0), nil)
	stands(t, "behind empty bytes", r, true, true)
	if r.Text(0) != "" {
		t.Error("an empty text isn't empty")
	}
	stands(t, "behind an empty text", r, true, true)
	l := r.List()
	stands(t, "an empty list", l, false, true)
	stands(t, "behind an empty list", r, false, true)
	l.Num(0)
	spoilt(t, "behind an empty list's end", l)
	stands(t, "what has the list", r, false, true)
	r.Raw(0)
	spoilt(t, "behind the end", r)
}

func TestAListIsApartFromWhatHasIt(t *testing.T) {
	r := rec.Read(rec.Pack(rec.List(rec.Num(1), rec.Num(2)), rec.List(rec.Num(3)), rec.Num(4)))
	a, b := r.List(), r.List()
	if b.Num(9) != 3 || a.Num(9) != 1 {
		t.Error("lists aren't taken in any order")
	}
	if b.Num(9) != 0 {
		t.Error("a list goes on behind its end")
	}
	spoilt(t, "the list that was taken too far", b)
	stands(t, "what has it", r, true, true)
	stands(t, "its other list", a, true, true)
	if r.Truth() {
		t.Error("4 is true")
	}
	spoilt(t, "what has the lists", r)
	stands(t, "a list of what is spoilt", a, true, true)
	if a.Num(9) != 2 || !a.Done() {
		t.Error("a list isn't taken to its end")
	}
}

func TestWhatIsHandedInMayBeTurned(t *testing.T) {
	b := []byte("abc")
	p := rec.Num(5)
	raw, list, pack := rec.Raw(b), rec.List(p, b), rec.Pack(p)
	b[0], p[0] = 'x', 9
	same(t, "bytes", raw, []byte("\x03\x00\x00\x00abc"))
	same(t, "a list", list, []byte("\x07\x00\x00\x00\x05\x00\x00\x00abc"))
	same(t, "a pack", pack, []byte{5, 0, 0, 0})

	b = rec.Pack(rec.Num(5), rec.Text("abc"), rec.List(rec.Text("de")))
	kept := bytes.Clone(b)
	r := rec.Read(b)
	clear(b)
	if r.Num(5) != 5 {
		t.Error("the number was turned with the bytes that were handed in")
	}
	same(t, "bytes that are taken", r.Raw(3), []byte("abc"))
	l := r.List()
	copy(b, kept)
	if l.Text(2) != "de" || !l.Done() || !r.Done() {
		t.Error("the list was turned with the bytes that were handed in")
	}
}

func TestWhatIsHandedInIsNotTurned(t *testing.T) {
	roomy := append(make([]byte, 0, 64), 1, 0, 0, 0)
	spare := roomy[:64]
	for i := 4; i < 64; i++ {
		spare[i] = 'z'
	}
	parts := []rec.Part{roomy, rec.Part("b")}
	rec.Raw(roomy)
	rec.List(parts...)
	rec.Pack(parts...)
	r := rec.Read(roomy)
	r.List()
	same(t, "what was handed in", spare, append([]byte{1, 0, 0, 0}, bytes.Repeat([]byte("z"), 60)...))
	same(t, "the first part", parts[0], []byte{1, 0, 0, 0})
	same(t, "the second part", parts[1], []byte("b"))
}

func TestWhatIsToldMayBeTurned(t *testing.T) {
	for _, told := range [][]byte{rec.Num(1), rec.Raw([]byte("a")), rec.Text("a"), rec.List(rec.Num(1)), rec.Pack(rec.Num(1))} {
		clear(told)
	}
	same(t, "a number", rec.Num(1), []byte{1, 0, 0, 0})
	same(t, "a text", rec.Text("a"), []byte("\x01\x00\x00\x00a"))

	b := rec.Pack(rec.Raw([]byte("ab")), rec.List(rec.Raw([]byte("cd")), rec.Num(5)), rec.Num(6))
	kept := bytes.Clone(b)
	r := rec.Read(b)
	first := r.Raw(2)
	_ = append(first, 9, 9, 9, 9)
	l := r.List()
	second := l.Raw(2)
	_ = append(second, 9, 9, 9, 9)
	clear(first)
	if l.Num(5) != 5 || r.Num(6) != 6 {
		t.Error("what is left was turned with what was told")
	}
	same(t, "what was told next", second, []byte("cd"))
	same(t, "what was handed in", b, kept)
}

func TestTwoReadersAreApart(t *testing.T) {
	b := rec.Pack(rec.Num(1), rec.Num(2))
	x, y := rec.Read(b), rec.Read(b)
	if x.Num(2) != 1 || x.Num(2) != 2 || y.Num(2) != 1 {
		t.Error("one takes what the other one does")
	}
	x.Num(2)
	spoilt(t, "the first", x)
	stands(t, "the second", y, true, true)
}

// model is a reader as a place in bytes that nobody turns.
type model struct {
	b        []byte
	at, ends int
	bad      bool
}

// sized is where the next part's bytes begin and end, and whether there is such a part.
func (m *model) sized(most int) (int, int, bool) {
	n := m.num(most)
	if m.bad || n > m.ends-m.at {
		m.bad = true
		return 0, 0, false
	}
	m.at += n
	return m.at - n, m.at, true
}

func (m *model) num(most int) int {
	if m.bad || m.ends-m.at < 4 || int(binary.LittleEndian.Uint32(m.b[m.at:])) > most {
		m.bad = true
		return 0
	}
	m.at += 4
	return int(binary.LittleEndian.Uint32(m.b[m.at-4:]))
}

func (m *model) list() *model {
	from, to, ok := m.sized(mostList)
	return &model{m.b, from, to, !ok}
}

// some is a part by chance, with parts in it, some of which aren't what they say.
func some(r *rand.Rand, depth int) rec.Part {
	b := make([]byte, r.Intn(9))
	r.Read(b)
	switch k := r.Intn(12); {
	case k < 2:
		return rec.Num(r.Intn(3))
	case k < 3:
		return rec.Num(int(r.Uint64()))
	case k < 5:
		return rec.Raw(b)
	case k < 7:
		return rec.Text(string(b))
	case k < 11 && depth > 0:
		parts := make([]rec.Part, r.Intn(5))
		for i := range parts {
			parts[i] = some(r, depth-1)
		}
		return rec.List(parts...)
	}
	return b[:r.Intn(len(b)+1)]
}

func TestAnyOrderOfCalls(t *testing.T) {
	mosts := []int{math.MaxInt, math.MaxInt, math.MaxInt, math.MaxInt, 1<<32 - 1, 8, 8, 4, 1, 0, -1}
	for seed := range int64(4000) {
		r := rand.New(rand.NewSource(seed))
		parts := make([]rec.Part, r.Intn(8))
		for i := range parts {
			parts[i] = some(r, 3)
		}
		b := rec.Pack(parts...)
		readers, models := []*rec.Reader{rec.Read(b)}, []*model{{b, 0, len(b), false}}
		for range 30 {
			i := r.Intn(len(readers))
			x, m := readers[i], models[i]
			most := mosts[r.Intn(len(mosts))]
			switch r.Intn(5) {
			case 0:
				if got, want := x.Num(most), m.num(most); got != want {
					t.Fatalf("seed %d: the number %d is taken, not %d", seed, got, want)
				}
			case 1:
				from, to, _ := m.sized(most)
				same(t, "bytes that are taken", x.Raw(most), b[from:to])
			case 2:
				from, to, _ := m.sized(most)
				same(t, "a text that is taken", []byte(x.Text(most)), b[from:to])
			case 3:
				readers, models = append(readers, x.List()), append(models, m.list())
			case 4:
				if got, want := x.Truth(), m.num(1) == 1; got != want {
					t.Fatalf("seed %d: %v is taken, not %v", seed, got, want)
				}
			}
			for i, m := range models {
				stands(t, "by chance", readers[i], !m.bad && m.at < m.ends, !m.bad)
			}
			if t.Failed() {
				t.Fatalf("seed %d", seed)
			}
		}
	}
}
