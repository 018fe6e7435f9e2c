package tree_test

import (
	"bytes"
	"fmt"
	"math"
	"slices"
	"strings"
	"testing"

	"farrier/api"
	"farrier/tree"
)

// step does operations with a tree and with what it should be.
func step(t *testing.T, got *tree.Tree, m *model, want api.Errno, ops ...tree.Op) {
	t.Helper()
	if e := got.Do(ops...); e != want {
		t.Fatalf("%.200v tells %d, not %d", ops, e, want)
	}
	if e := m.do(ops...); e != want {
		t.Fatalf("the model tells %d of %.200v, not %d", e, ops, want)
	}
	m.holds(t, "behind it", got)
}

// both is a tree on which operations were done, and what it should be.
func both(t *testing.T, quota int, ops ...tree.Op) (*tree.Tree, *model) {
	t.Helper()
	got, m := tree.New(quota), newModel(quota)
	step(t, got, m, api.OK, ops...)
	return got, m
}

func mkdir(p string) tree.Op            { return tree.Op{Kind: tree.Mkdir, Path: p} }
func rmdir(p string) tree.Op            { return tree.Op{Kind: tree.Rmdir, Path: p} }
func create(p, data string) tree.Op     { return tree.Op{Kind: tree.Create, Path: p, Data: []byte(data)} }
func write(p, data string) tree.Op      { return tree.Op{Kind: tree.Write, Path: p, Data: []byte(data)} }
func link(p, to string) tree.Op         { return tree.Op{Kind: tree.Link, Path: p, To: to} }
func rename(p, to string) tree.Op       { return tree.Op{Kind: tree.Rename, Path: p, To: to} }
func unlink(p string) tree.Op           { return tree.Op{Kind: tree.Unlink, Path: p} }
func odd(kind int, p string) tree.Op    { return tree.Op{Kind: kind, Path: p} }
func long(kind int, p string) tree.Op   { return tree.Op{Kind: kind, Path: p, Data: make([]byte, 3501)} }
func goes(o tree.Op, to string) tree.Op { o.To = to; return o }

// reads holds what is read of a path against what should be, as a number and its bytes.
func reads(t *testing.T, got *tree.Tree, p string, i int, want string) {
	t.Helper()
	n, _ := got.Find(p)
	if b, e := got.Read(p); n != i || string(b) != want || e != api.OK {
		t.Errorf("at %s stands %d, with %q, %d; it should be %d, with %q", p, n, b, e, i, want)
	}
}

func TestKindsAndNewTree(t *testing.T) {
	if k := []int{tree.Mkdir, tree.Rmdir, tree.Create, tree.Write, tree.Link, tree.Rename, tree.Unlink}; !slices.Equal(k, []int{0, 1, 2, 3, 4, 5, 6}) {
		t.Errorf("the kinds are %v", k)
	}
	newModel(9).holds(t, "a new tree", tree.New(9), "/", "", "/a", "//", "a", "/a/b")
}

func TestExampleOfOneAndTwo(t *testing.T) {
	got, m := both(t, 100, mkdir("/a"), create("/a/f", "one"), link("/a/f", "/g"), create("/h", "two"))
	reads(t, got, "/g", 3, "one")
	step(t, got, m, api.OK, rename("/h", "/a/f"))
	reads(t, got, "/g", 3, "one")
	reads(t, got, "/a/f", 4, "two")
	step(t, got, m, api.OK, unlink("/g"))
	if l := got.Loose(); !slices.Equal(l, []int{3}) {
		t.Errorf("%v are loose", l)
	}
}

func TestErrorsOfEachOperationInTheirOrder(t *testing.T) {
	deep := "/d/d/d/d/d/f"
	for _, c := range []struct {
		o    tree.Op
		want api.Errno
	}{
		{odd(-1, ""), api.ErrArg}, {odd(7, "/new"), api.ErrArg}, {odd(math.MinInt, "/f"), api.ErrArg}, {odd(math.MaxInt, "/f"), api.ErrArg}, {long(7, "/f/x"), api.ErrArg},
		{mkdir(""), api.ErrName}, {mkdir("/"), api.ErrName}, {rmdir("/"), api.ErrName}, {create("new", ""), api.ErrName}, {write("/f/", "x"), api.ErrName},
		{unlink("/."), api.ErrName}, {link("/", "/new"), api.ErrName}, {rename(deep, "/new"), api.ErrName}, {long(tree.Create, "/F"), api.ErrName}, {unlink("/none/.."), api.ErrName},
		{mkdir("/none/x"), api.ErrNone}, {create("/f/x/y", ""), api.ErrNone}, {long(tree.Write, "/none/x"), api.ErrNone}, {rmdir("/d/none/x"), api.ErrNone},
		{mkdir("/f/x"), api.ErrFile}, {create("/f/x", ""), api.ErrFile}, {long(tree.Unlink, "/f/x"), api.ErrFile}, {link("/f/x", "/new"), api.ErrFile}, {rmdir("/f/x"), api.ErrFile},
		{long(tree.Mkdir, "/d"), api.ErrLong}, {long(tree.Rmdir, "/none"), api.ErrLong}, {long(tree.Create, "/f"), api.ErrLong}, {long(tree.Write, "/d"), api.ErrLong}, {long(tree.Unlink, "/none"), api.ErrLong},
		{goes(long(tree.Link, "/f"), "/F"), api.ErrLong}, {goes(long(tree.Rename, "/f"), "/"), api.ErrLong},
		{mkdir("/d"), api.ErrTwice}, {mkdir("/f"), api.ErrTwice}, {create("/d", "x"), api.ErrTwice}, {create("/f", "x"), api.ErrTwice},
		{rmdir("/none"), api.ErrNone}, {write("/none", "x"), api.ErrNone}, {link("/none", ""), api.ErrNone}, {rename("/none", "/"), api.ErrNone}, {unlink("/none"), api.ErrNone},
		{rmdir("/f"), api.ErrFile}, {rmdir("/d"), api.ErrBusy},
		{write("/d", "x"), api.ErrDir}, {link("/d", ""), api.ErrDir}, {rename("/e", "/new"), api.ErrDir}, {unlink("/e"), api.ErrDir},
		{link("/f", ""), api.ErrName}, {link("/f", "/"), api.ErrName}, {rename("/f", "/F"), api.ErrName}, {rename("/f", deep), api.ErrName},
		{link("/f", "/none/x"), api.ErrNone}, {rename("/f", "/none/x"), api.ErrNone}, {rename("/f", "/g/x/y"), api.ErrNone},
		{link("/f", "/g/x"), api.ErrFile}, {rename("/f", "/g/x"), api.ErrFile}, {rename("/f", "/f/x"), api.ErrFile},
		{link("/f", "/g"), api.ErrTwice}, {link("/f", "/f"), api.ErrTwice}, {link("/f", "/e"), api.ErrTwice}, {rename("/f", "/e"), api.ErrDir}, {rename("/f", "/d"), api.ErrDir},
	} {
		got, m := both(t, 9000, mkdir("/d"), create("/d/h", "h"), create("/f", "f"), create("/g", "g"), mkdir("/e"))
		step(t, got, m, c.want, c.o)
		// The same behind, and ahead of, others that could be done, and ahead of others that could not.
		step(t, got, m, c.want, create("/x", "x"), write("/g", "xx"), c.o, unlink("/f"))
		step(t, got, m, c.want, c.o, odd(9, ""))
		step(t, got, m, c.want, c.o, write("/f", strings.Repeat("x", 3500)), write("/g", strings.Repeat("x", 3500)), write("/d/h", strings.Repeat("x", 3500)))
	}
}

func TestOperationsThatAreDone(t *testing.T) {
	got, m := both(t, 9000, mkdir("/d"), goes(create("/d/f", "one"), "/no path/"), link("/d/f", "/g"))
	step(t, got, m, api.OK, write("/g", "two"))
	reads(t, got, "/d/f", 3, "two")
	step(t, got, m, api.OK, write("/g", strings.Repeat("x", 3500)), write("/d/f", ""))
	reads(t, got, "/g", 3, "")
	step(t, got, m, api.OK, rename("/g", "/d/g"), unlink("/d/f"))
	step(t, got, m, api.OK, unlink("/d/g"), rmdir("/d"))
	step(t, got, m, api.OK, mkdir("/d"), mkdir("/d/e"), mkdir("/d/e/f"), mkdir("/d/e/f/g"), mkdir("/d/e/f/g/h"))
	step(t, got, m, api.ErrBusy, rmdir("/d/e/f/g/h"), rmdir("/d/e/f"))
	step(t, got, m, api.OK, rmdir("/d/e/f/g/h"), rmdir("/d/e/f/g"), rmdir("/d/e/f"), rmdir("/d/e"), rmdir("/d"))
	step(t, got, m, api.OK)
	if n := got.Nodes(); n != 2 {
		t.Errorf("there are %d nodes, not the root and the loose file", n)
	}
}

func TestOneRefusedInTheMidstTurnsNothing(t *testing.T) {
	got, m := both(t, 100, mkdir("/d"), create("/d/f", "one"), link("/d/f", "/g"), create("/h", "two"))
	turns := []tree.Op{write("/g", "new"), rename("/h", "/d/f"), unlink("/g"), create("/x", "x"), mkdir("/y"), link("/x", "/y/z"), unlink("/d/f"), rmdir("/d")}
	for at := range len(turns) + 1 {
		for want, o := range map[api.Errno]tree.Op{api.ErrNone: unlink("/none"), api.ErrTwice: mkdir("/h2"), api.ErrName: mkdir("/"), api.ErrArg: odd(7, "/g")} {
			ops := slices.Concat([]tree.Op{create("/h2", "")}, turns[:at], []tree.Op{o}, turns[at:])
			step(t, got, m, want, ops...)
		}
	}
	reads(t, got, "/g", 3, "one")
	reads(t, got, "/d/f", 3, "one")
	reads(t, got, "/h", 4, "two")
	// The numbers that those would have used are used now.
	step(t, got, m, api.OK, turns...)
	reads(t, got, "/x", 5, "x")
	if i, _ := got.Find("/y"); i != 6 {
		t.Errorf("the next directory has the number %d, not 6", i)
	}
}

func TestFileAtTwoPathsRenamedOverItself(t *testing.T) {
	got, m := both(t, 100, create("/f", "one"), mkdir("/d"), link("/f", "/d/g"))
	for _, o := range []tree.Op{rename("/f", "/d/g"), rename("/d/g", "/f"), rename("/f", "/f"), rename("/d/g", "/d/g")} {
		step(t, got, m, api.OK, o)
		reads(t, got, "/f", 2, "one")
		reads(t, got, "/d/g", 2, "one")
	}
	step(t, got, m, api.OK, rename("/f", "/d/h"))
	reads(t, got, "/d/g", 2, "one")
	reads(t, got, "/d/h", 2, "one")
	step(t, got, m, api.OK, unlink("/d/g"))
	if l := got.Loose(); len(l) != 0 {
		t.Errorf("%v are loose", l)
	}
	step(t, got, m, api.OK, create("/other", "two"), rename("/other", "/d/h"))
	if l := got.Loose(); !slices.Equal(l, []int{2}) {
		t.Errorf("%v are loose", l)
	}
}

func TestLooseFilesAndReap(t *testing.T) {
	got, m := both(t, 100, create("/a", "1"), create("/b", "22"), create("/c", "333"), mkdir("/d"), create("/e", "4444"), create("/k", "k"))
	step(t, got, m, api.OK, unlink("/e"), unlink("/a"), rename("/b", "/c"))
	if l := got.Loose(); !slices.Equal(l, []int{2, 4, 6}) {
		t.Errorf("%v are loose", l)
	}
	if got.Used() != 11 || got.Nodes() != 7 {
		t.Errorf("%d bytes, and %d nodes, are there", got.Used(), got.Nodes())
	}
	for _, ids := range [][]int{nil, {0}, {1}, {3}, {5}, {7}, {8}, {-1}, {math.MaxInt, math.MinInt}, {4, 4, 1, 7}, {6, 2}, {2}} {
		got.Reap(ids...)
		m.reap(ids...)
		m.holds(t, "behind Reap", got, "/a", "/e")
	}
	if l := got.Loose(); len(l) != 0 || got.Used() != 3 || got.Nodes() != 4 {
		t.Errorf("%v are loose, %d bytes, and %d nodes, are there", l, got.Used(), got.Nodes())
	}
	// No number is used again.
	step(t, got, m, api.OK, create("/new", ""))
	reads(t, got, "/new", 8, "")
}

func TestRoomForNodes(t *testing.T) {
	got, m := both(t, 100)
	for i := 1; got.Nodes() < 127; i++ {
		o := create(fmt.Sprintf("/f%d", i), "")
		if i%2 == 0 {
			o = mkdir(fmt.Sprintf("/f%d", i))
		}
		step(t, got, m, api.OK, o)
	}
	step(t, got, m, api.ErrFull, mkdir("/x"), create("/y", strings.Repeat("x", 101)))
	step(t, got, m, api.ErrNone, mkdir("/x"), mkdir("/y"), unlink("/z"))
	// Just what there is behind all counts.
	step(t, got, m, api.OK, mkdir("/x"), mkdir("/y"), rmdir("/x"))
	step(t, got, m, api.ErrFull, create("/x", ""))
	step(t, got, m, api.ErrFull, mkdir("/x"))
	step(t, got, m, api.ErrFull, create("/x", ""), unlink("/x"))
	step(t, got, m, api.OK, link("/f1", "/x"), mkdir("/z"), rmdir("/z"))
	step(t, got, m, api.OK, unlink("/f1"), unlink("/x"))
	step(t, got, m, api.ErrFull, mkdir("/x"))
	got.Reap(got.Loose()...)
	m.reap(m.loose()...)
	step(t, got, m, api.OK, mkdir("/x"))
	step(t, got, m, api.ErrFull, mkdir("/z"))
}

func TestRoomForBytes(t *testing.T) {
	got, m := both(t, 10, create("/f", "12345"), link("/f", "/g"), create("/h", "12345"))
	step(t, got, m, api.ErrQuota, create("/x", "1"))
	step(t, got, m, api.ErrQuota, write("/h", "123456"))
	step(t, got, m, api.ErrTwice, write("/h", "123456"), create("/h", ""))
	step(t, got, m, api.OK, create("/x", ""), mkdir("/y"))
	step(t, got, m, api.OK, write("/h", "1234567890"), write("/f", ""))
	step(t, got, m, api.ErrQuota, unlink("/h"), create("/h", "1"))
	step(t, got, m, api.OK, write("/h", "123456"), unlink("/h"))
	step(t, got, m, api.ErrQuota, write("/f", "12345"))
	got.Reap(got.Loose()...)
	m.reap(m.loose()...)
	step(t, got, m, api.OK, write("/f", "1234567890"))
	for _, quota := range []int{0, -1, math.MinInt} {
		got, m := both(t, quota, mkdir("/d"), create("/f", ""))
		step(t, got, m, api.ErrQuota, write("/f", "1"))
	}
}

func TestCloneIsApart(t *testing.T) {
	got, m := both(t, 20, mkdir("/d"), create("/d/f", "one"), link("/d/f", "/g"), create("/h", "loose"), unlink("/h"))
	c, was := got.Clone(), m.clone()
	was.holds(t, "a clone", c)
	step(t, got, m, api.OK, write("/g", "two"), unlink("/d/f"), rmdir("/d"), create("/x", "x"))
	got.Reap(got.Loose()...)
	m.reap(m.loose()...)
	was.holds(t, "a clone", c, "/x")
	step(t, c, was, api.OK, create("/y", "y"), rename("/y", "/g"), unlink("/d/f"))
	m.holds(t, "what was cloned", got, "/y", "/d")
	step(t, c, was, api.ErrQuota, create("/z", "123456789012"))
	step(t, c, was, api.OK, create("/z", "12345678901"))
	reads(t, c, "/z", 6, "12345678901")
}

func TestWhatIsToldIsNewMemory(t *testing.T) {
	data := []byte("one")
	got, m := both(t, 100, mkdir("/d"), tree.Op{Kind: tree.Create, Path: "/f", Data: data}, create("/g", ""), unlink("/g"))
	copy(data, "xxx")
	reads(t, got, "/f", 3, "one")
	step(t, got, m, api.OK, tree.Op{Kind: tree.Write, Path: "/f", Data: data})
	copy(data, "yyy")
	reads(t, got, "/f", 3, "xxx")
	c := got.Clone()
	b, _ := got.Read("/f")
	copy(b, "zzz")
	l, _ := got.List("/")
	l[0] = "z"
	got.Loose()[0] = 99
	for _, g := range []*tree.Tree{got, c} {
		m.holds(t, "behind its answers being turned", g)
	}
	rows := got.Dump()
	kept := bytes.Join(rows, nil)
	for _, r := range rows {
		clear(r)
	}
	if again := bytes.Join(got.Dump(), nil); !bytes.Equal(again, kept) {
		t.Error("a dump is another one behind its rows being turned")
	}
}
