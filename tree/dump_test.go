package tree_test

import (
	"bytes"
	"fmt"
	"math/rand"
	"slices"
	"strings"
	"testing"

	"farrier/api"
	"farrier/rec"
	"farrier/tree"
)

func sameOp(a, b tree.Op) bool {
	return a.Kind == b.Kind && a.Path == b.Path && a.To == b.To && bytes.Equal(a.Data, b.Data)
}

// bounded holds the rows of a tree's dump against how many, and how long, they may be.
func bounded(t *testing.T, rows [][]byte, m *model) {
	t.Helper()
	standing := len(m.dirs) + len(m.data) - len(m.loose())
	bound := 80 * (standing + len(m.at))
	for i, s := range m.data {
		if !slices.Contains(m.loose(), i) {
			bound += len(s)
		}
	}
	sum := 0
	for _, r := range rows {
		if len(r) > api.MaxRec {
			t.Errorf("a row has %d bytes", len(r))
		}
		sum += len(r)
	}
	if len(rows) > standing+1 || sum > bound {
		t.Errorf("%d nodes at %d paths have %d rows of %d bytes, which may be %d", standing, len(m.at), len(rows), sum, bound)
	}
}

// loaded is a tree that was dumped and loaded again, which turns nothing of it.
func loaded(t *testing.T, from *tree.Tree, m *model) *tree.Tree {
	t.Helper()
	rows := from.Dump()
	bounded(t, rows, m)
	got, ok := tree.Load(m.quota, rows...)
	if !ok || got == nil {
		t.Fatalf("what was dumped isn't loaded")
	}
	m.holds(t, "behind Dump", from)
	again := got.Dump()
	if !slices.EqualFunc(rows, again, bytes.Equal) {
		t.Errorf("what was dumped and loaded is dumped as other rows")
	}
	for _, r := range slices.Concat(rows, again) {
		for i := range r {
			r[i]++
		}
	}
	return got
}

func TestPack(t *testing.T) {
	ops := []tree.Op{
		{Kind: tree.Create, Path: "/f", Data: []byte("x")},
		{Kind: tree.Rename, Path: "/f", To: "/g"},
	}
	want := []byte("\x02\x00\x00\x00\x02\x00\x00\x00/f\x00\x00\x00\x00\x01\x00\x00\x00x\x05\x00\x00\x00\x02\x00\x00\x00/f\x02\x00\x00\x00/g\x00\x00\x00\x00")
	if got := tree.Pack(ops...); !bytes.Equal(got, want) {
		t.Errorf("operations are packed as %q, not %q", got, want)
	}
	if got := tree.Pack(); len(got) != 0 {
		t.Errorf("no operation is packed as %q", got)
	}
	if got, e := tree.Unpack(nil); len(got) != 0 || e != api.OK {
		t.Errorf("no bytes are unpacked as %v, %d", got, e)
	}
	for kind := range 7 {
		full := strings.Repeat("x", 40)
		ops = append(ops, tree.Op{Kind: kind, Path: "no path", To: full, Data: bytes.Repeat([]byte{7}, 3500)}, tree.Op{Kind: kind}, tree.Op{Kind: kind, Path: full})
	}
	got, e := tree.Unpack(tree.Pack(ops...))
	if e != api.OK || !slices.EqualFunc(got, ops, sameOp) {
		t.Errorf("what is packed is unpacked as %v, %d", got, e)
	}
}

func TestUnpackIsNewMemory(t *testing.T) {
	b := tree.Pack(tree.Op{Kind: tree.Create, Path: "/f", Data: []byte("abc")}, tree.Op{Kind: tree.Write, Path: "/f", Data: []byte("def")})
	kept := slices.Clone(b)
	ops, _ := tree.Unpack(b)
	ops[0].Data = append(ops[0].Data, "ghi"...)
	ops[0].Data[0] = 'x'
	if !bytes.Equal(b, kept) {
		t.Error("what is told shares memory with what was handed in")
	}
	clear(b)
	if string(ops[0].Data) != "xbcghi" || string(ops[1].Data) != "def" || ops[1].Path != "/f" {
		t.Errorf("operations are %v behind the bytes being turned", ops)
	}
}

func TestUnpackOfWrongBytes(t *testing.T) {
	right := tree.Op{Kind: tree.Create, Path: "/f", To: "/g", Data: []byte("x")}
	for _, o := range []tree.Op{
		{Kind: 7, Path: "/f"}, {Kind: -1, Path: "/f"}, {Kind: 1 << 31, Path: "/f"},
		{Path: strings.Repeat("x", 41)}, {To: strings.Repeat("x", 41)}, {Data: make([]byte, 3501)},
	} {
		for _, ops := range [][]tree.Op{{o}, {right, o}, {o, right}} {
			if got, e := tree.Unpack(tree.Pack(ops...)); len(got) != 0 || e != api.ErrForm {
				t.Errorf("wrong operations are unpacked as %v, %d", got, e)
			}
		}
	}
	whole := tree.Pack(right, right)
	for n := range len(whole) {
		got, e := tree.Unpack(whole[:n])
		if n == 0 || n == len(whole)/2 {
			if e != api.OK || len(got) != n*2/len(whole) {
				t.Errorf("%d bytes are unpacked as %v, %d", n, got, e)
			}
		} else if len(got) != 0 || e != api.ErrForm {
			t.Errorf("%d bytes are unpacked as %v, %d", n, got, e)
		}
	}
	if got, e := tree.Unpack(append(whole, 0)); len(got) != 0 || e != api.ErrForm {
		t.Errorf("a byte too many is unpacked as %v, %d", got, e)
	}
	r := rand.New(rand.NewSource(6))
	for range 20000 {
		b := slices.Clone(whole)
		b[r.Intn(len(b))] = byte(r.Intn(256))
		got, e := tree.Unpack(b)
		if e == api.OK && !bytes.Equal(tree.Pack(got...), b) || e != api.OK && (e != api.ErrForm || len(got) != 0) {
			t.Errorf("%q is unpacked as %v, %d", b, got, e)
		}
	}
}

func TestDumpOfARoot(t *testing.T) {
	for _, quota := range []int{-7, 0, 9} {
		loaded(t, tree.New(quota), newModel(quota))
	}
}

func TestWhatIsLoadedGoesOnAlike(t *testing.T) {
	got, m := both(t, 10,
		tree.Op{Kind: tree.Mkdir, Path: "/d"}, tree.Op{Kind: tree.Create, Path: "/f", Data: []byte("one")},
		tree.Op{Kind: tree.Link, Path: "/f", To: "/d/g"}, tree.Op{Kind: tree.Create, Path: "/x", Data: []byte("two")},
		tree.Op{Kind: tree.Mkdir, Path: "/e"}, tree.Op{Kind: tree.Rename, Path: "/f", To: "/e/f"},
		tree.Op{Kind: tree.Unlink, Path: "/x"})
	got = loaded(t, got, m)
	m.reap(m.loose()...)
	m.holds(t, "what was loaded", got, "/x", "/f")
	// Of the numbers 1 to 5 the loose file's is used no more; what was read at two paths is one file still; and the room is the same.
	step(t, got, m, api.OK, tree.Op{Kind: tree.Write, Path: "/d/g", Data: []byte("three")}, tree.Op{Kind: tree.Create, Path: "/new"})
	if i, _ := got.Find("/new"); i != 6 {
		t.Errorf("the next number is %d, not 6", i)
	}
	if b, _ := got.Read("/e/f"); string(b) != "three" {
		t.Errorf("at the other path %q is read", b)
	}
	step(t, got, m, api.OK, tree.Op{Kind: tree.Write, Path: "/new", Data: []byte("12345")})
	step(t, got, m, api.ErrQuota, tree.Op{Kind: tree.Write, Path: "/new", Data: []byte("123456")})
	if got, ok := tree.Load(-1, got.Dump()...); !ok || got.Used() != 10 || got.Do(tree.Op{Kind: tree.Mkdir, Path: "/m"}) != api.ErrQuota {
		t.Error("a tree that has more bytes than there is room for isn't loaded as it")
	}
}

func TestDumpOfMuch(t *testing.T) {
	got, m := both(t, 1<<20)
	for i := 1; got.Nodes() < api.MaxNodes; i++ {
		step(t, got, m, api.OK, tree.Op{Kind: tree.Create, Path: fmt.Sprintf("/long-name%d", i), Data: bytes.Repeat([]byte{byte(i)}, api.MaxData)})
	}
	loaded(t, got, m)
	rows := got.Dump()
	kept := slices.Clone(rows[1])
	rows[0] = append(rows[0], 1, 2, 3)
	if !bytes.Equal(rows[1], kept) {
		t.Error("two rows share memory")
	}
	got, m = both(t, 1<<20, tree.Op{Kind: tree.Create, Path: "/f", Data: make([]byte, api.MaxData)})
	for i := range 400 {
		step(t, got, m, api.OK, tree.Op{Kind: tree.Link, Path: "/f", To: fmt.Sprintf("/long-name%d", i)})
	}
	again := loaded(t, got, m)
	for i := range 400 {
		step(t, again, m, api.OK, tree.Op{Kind: tree.Unlink, Path: fmt.Sprintf("/long-name%d", i)})
	}
	if l := again.Loose(); len(l) != 0 {
		t.Errorf("%v are loose", l)
	}
	step(t, again, m, api.OK, tree.Op{Kind: tree.Unlink, Path: "/f"})
	step(t, again, m, api.OK, tree.Op{Kind: tree.Mkdir, Path: "/d"}, tree.Op{Kind: tree.Mkdir, Path: "/d/d"}, tree.Op{Kind: tree.Mkdir, Path: "/d/d/d"}, tree.Op{Kind: tree.Mkdir, Path: "/d/d/d/d"}, tree.Op{Kind: tree.Create, Path: "/d/d/d/d/f"})
	loaded(t, again, m)
}

// found holds a tree that rows make, which no dump told, to be asked for paths; and makes all calls of it.
func found(t *testing.T, rows ...[]byte) bool {
	t.Helper()
	got, ok := tree.Load(50, rows...)
	if ok != (got != nil) {
		t.Fatalf("Load tells %v, %v", got, ok)
	}
	if !ok {
		return false
	}
	ask := func() {
		for _, p := range []string{"/", "/f", "/d", "/d/g", "/d/d", "/d/d/h", "", "/."} {
			if i, is := got.Find(p); is != (i > 0) || i < 0 {
				t.Fatalf("at %q stands %d, %v", p, i, is)
			}
			got.Dir(p)
			got.Read(p)
			got.List(p)
		}
		got.Used()
		got.Nodes()
		got.Reap(got.Loose()...)
		got.Dump()
	}
	ask()
	got.Do(tree.Op{Kind: tree.Mkdir, Path: "/new"})
	got.Do(tree.Op{Kind: tree.Unlink, Path: "/f"})
	got.Clone().Do(tree.Op{Kind: tree.Rename, Path: "/d/g", To: "/d/d/h"})
	ask()
	return true
}

func TestLoadOfWrongRows(t *testing.T) {
	got, _ := both(t, 50,
		tree.Op{Kind: tree.Mkdir, Path: "/d"}, tree.Op{Kind: tree.Create, Path: "/f", Data: []byte("one")},
		tree.Op{Kind: tree.Link, Path: "/f", To: "/d/g"}, tree.Op{Kind: tree.Mkdir, Path: "/d/d"}, tree.Op{Kind: tree.Create, Path: "/d/d/h"})
	rows := got.Dump()
	if !found(t, rows...) || found(t) || found(t, nil, nil) || found(t, []byte("no tree")) {
		t.Error("Load tells wrongly of rows")
	}
	whole := slices.Concat(rows...)
	for n := range len(whole) {
		found(t, whole[:n])
		for b := range 256 {
			turned := slices.Clone(whole)
			turned[n] = byte(b)
			found(t, turned)
		}
	}
	found(t, append(slices.Clone(whole), 0))
	found(t, whole, whole)
	r := rand.New(rand.NewSource(7))
	for range 20000 {
		b := slices.Clone(whole)
		for range 1 + r.Intn(4) {
			b[r.Intn(len(b))] = byte(r.Intn(8))
		}
		found(t, b[:r.Intn(len(b)+1)], b[r.Intn(len(b)+1):])
	}
}

func TestLoadOfWhatNoTreeIs(t *testing.T) {
	num, kid := rec.Num, func(s string, i int) rec.Part { return rec.Pack(rec.Text(s), rec.Num(i)) }
	file := func(i int) rec.Part { return rec.Pack(rec.Num(i), rec.Text("x")) }
	dir := func(i int, kids ...rec.Part) rec.Part { return rec.Pack(rec.Num(i), rec.List(kids...)) }
	for what, c := range map[string]struct {
		parts []rec.Part
		want  bool
	}{
		"a tree":                          {[]rec.Part{num(9), rec.List(file(3)), dir(1, kid("d", 2), kid("f", 3)), dir(2, kid("f", 3))}, true},
		"a number that is used next":      {[]rec.Part{num(3), rec.List(file(3)), dir(1, kid("f", 3))}, false},
		"a directory's that is used next": {[]rec.Part{num(3), rec.List(), dir(1, kid("d", 3)), dir(3)}, false},
		"no next number":                  {[]rec.Part{num(0), rec.List(), dir(1)}, false},
		"the root's next":                 {[]rec.Part{num(1), rec.List(), dir(1)}, false},
		"a file of the root's number":     {[]rec.Part{num(9), rec.List(file(1)), dir(1)}, false},
		"a file of the number 0":          {[]rec.Part{num(9), rec.List(file(0)), dir(1, kid("f", 0))}, false},
		"two files of a number":           {[]rec.Part{num(9), rec.List(file(2), file(2)), dir(1, kid("f", 2))}, false},
		"a loose file":                    {[]rec.Part{num(9), rec.List(file(2)), dir(1)}, false},
		"a file in a file":                {[]rec.Part{num(9), rec.List(file(2), file(3)), dir(1, kid("f", 2)), dir(2, kid("f", 3))}, false},
		"the root in itself":              {[]rec.Part{num(9), rec.List(), dir(1, kid("r", 1))}, false},
		"a directory in itself":           {[]rec.Part{num(9), rec.List(), dir(1, kid("d", 2)), dir(2, kid("d", 2))}, false},
		"a directory at two paths":        {[]rec.Part{num(9), rec.List(), dir(1, kid("a", 2), kid("b", 2)), dir(2)}, false},
		"a directory that stands nowhere": {[]rec.Part{num(9), rec.List(file(3)), dir(1), dir(2, kid("f", 3))}, false},
		"a directory of the number 0":     {[]rec.Part{num(9), rec.List(), dir(1, kid("d", 0)), dir(0)}, false},
		"two of a name":                   {[]rec.Part{num(9), rec.List(file(2), file(3)), dir(1, kid("f", 2), kid("f", 3))}, false},
		"no name":                         {[]rec.Part{num(9), rec.List(file(2)), dir(1, kid("F", 2))}, false},
		"an empty name":                   {[]rec.Part{num(9), rec.List(file(2)), dir(1, kid("", 2))}, false},
		"a long name":                     {[]rec.Part{num(9), rec.List(file(2)), dir(1, kid("abcdefghijklm", 2))}, false},
		"bytes behind what stands":        {[]rec.Part{num(9), rec.List(file(2)), dir(1, kid("f", 2), num(2))}, false},
		"bytes behind the files":          {[]rec.Part{num(9), rec.List(file(2), rec.Part{0}), dir(1, kid("f", 2))}, false},
		"bytes behind all":                {[]rec.Part{num(9), rec.List(file(2)), dir(1, kid("f", 2)), num(1)}, false},
		"no files' list":                  {[]rec.Part{num(9)}, false},
	} {
		if found(t, rec.Pack(c.parts...)) != c.want {
			t.Errorf("%s: Load tells %v", what, !c.want)
		}
	}
}
