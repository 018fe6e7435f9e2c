package swap_test

import (
	"bytes"
	"slices"
	"strconv"
	"strings"
	"testing"

	"farrier/api"
	"farrier/arc"
	"farrier/base"
	"farrier/dep"
	"farrier/swap"
	"farrier/tree"
	"farrier/txn"
)

// pkg is a package of some files; file is a file, and config one that is the users' to turn.
func pkg(name string, files ...arc.File) arc.Pkg {
	return arc.Pkg{Name: name, Version: "1", Files: files}
}

func file(p, data string) arc.File { return arc.File{Path: p, Data: []byte(data)} }

func config(p, data string) arc.File {
	return arc.File{Path: p, Config: true, Data: []byte(data)}
}

// of is the packages that are there.
func of(list ...arc.Pkg) base.Base {
	var b base.Base
	for _, p := range list {
		b = b.With(base.Of(p))
	}
	return b
}

// dir, put and drop are moves.
func dir(p string) txn.Move  { return txn.Move{Kind: txn.Dir, Path: p} }
func put(p string) txn.Move  { return txn.Move{Kind: txn.Put, Path: p} }
func drop(p string) txn.Move { return txn.Move{Kind: txn.Drop, Path: p} }

func mkdir(p string) tree.Op      { return tree.Op{Kind: tree.Mkdir, Path: p} }
func rmdir(p string) tree.Op      { return tree.Op{Kind: tree.Rmdir, Path: p} }
func unlink(p string) tree.Op     { return tree.Op{Kind: tree.Unlink, Path: p} }
func link(p, to string) tree.Op   { return tree.Op{Kind: tree.Link, Path: p, To: to} }
func rename(p, to string) tree.Op { return tree.Op{Kind: tree.Rename, Path: p, To: to} }

func create(p, data string) tree.Op {
	return tree.Op{Kind: tree.Create, Path: p, Data: []byte(data)}
}

// stand is a tree with an upgrade's places, to which these operations were done.
func stand(t *testing.T, ops ...tree.Op) *tree.Tree {
	t.Helper()
	x := tree.New(100000)
	turn(t, x, swap.Layout()...)
	turn(t, x, ops...)
	return x
}

// turn turns a tree, which should go well.
func turn(t *testing.T, x *tree.Tree, ops ...tree.Op) {
	t.Helper()
	for i, o := range ops {
		if e := x.Do(o); e != api.OK {
			t.Fatalf("the operation %d of %#v: %d", i, ops, e)
		}
	}
}

// sameOp tells whether two operations are the same; no bytes are nil, or empty.
func sameOp(a, b tree.Op) bool {
	return a.Kind == b.Kind && a.Path == b.Path && a.To == b.To && bytes.Equal(a.Data, b.Data)
}

// asked holds operations to be these, in this order.
func asked(t *testing.T, what string, got []tree.Op, want ...tree.Op) {
	t.Helper()
	if !slices.EqualFunc(got, want, sameOp) {
		t.Errorf("%s: %#v, and not %#v", what, got, want)
	}
}

// planned holds the moves by which packages become others to be these.
func planned(t *testing.T, what string, x *tree.Tree, was, now base.Base, come []arc.Pkg, want ...txn.Move) {
	t.Helper()
	ahead := all(x)
	moves, f := swap.Plan(x, was, now, come)
	if f != (dep.Fault{}) || !slices.Equal(moves, want) {
		t.Errorf("%s: Plan tells %v and %v, and not %v", what, moves, f, want)
	}
	same(t, what, x, ahead)
}

// refused holds packages not to become others, for this fault.
func refused(t *testing.T, what string, x *tree.Tree, was, now base.Base, come []arc.Pkg, want dep.Fault) {
	t.Helper()
	ahead := all(x)
	moves, f := swap.Plan(x, was, now, come)
	if f != want || len(moves) != 0 {
		t.Errorf("%s: Plan tells %v and %v, and not %v", what, moves, f, want)
	}
	same(t, what, x, ahead)
}

func owned(name, p string) dep.Fault { return dep.Fault{E: api.ErrOwner, Name: name, What: p} }

// node is what stands at a path: its number, and, of a file, its bytes.
type node struct {
	id   int
	dir  bool
	data string
}

// all is all that stands in a tree, by its path.
func all(x *tree.Tree) map[string]node { return below(x, "/") }

func below(x *tree.Tree, top string) map[string]node {
	at := map[string]node{}
	list, _ := x.List(top)
	for _, n := range list {
		p := strings.TrimSuffix(top, "/") + "/" + n
		id, _ := x.Find(p)
		data, _ := x.Read(p)
		at[p] = node{id, x.Dir(p), string(data)}
		for q, n := range below(x, p) {
			at[q] = n
		}
	}
	return at
}

// same holds a tree to have just what it had.
func same(t *testing.T, what string, x *tree.Tree, ahead map[string]node) {
	t.Helper()
	now := all(x)
	for p, n := range ahead {
		if now[p] != n {
			t.Errorf("%s: at %s stands %v, and not %v", what, p, now[p], n)
		}
	}
	for p, n := range now {
		if _, was := ahead[p]; !was {
			t.Errorf("%s: at %s stands %v, where nothing did", what, p, n)
		}
	}
}

// aside lays all files of moves aside.
func aside(t *testing.T, x *tree.Tree, moves []txn.Move, come []arc.Pkg) {
	t.Helper()
	for i, m := range moves {
		data, _ := swap.Data(come, m.Path)
		turn(t, x, swap.Aside(i, m, data)...)
	}
}

// done does the moves up to one; undone undoes these, the last one first.
func done(t *testing.T, x *tree.Tree, moves []txn.Move, at int) {
	t.Helper()
	for i, m := range moves[:at] {
		turn(t, x, swap.Do(x, i, m)...)
	}
}

func undone(t *testing.T, x *tree.Tree, moves []txn.Move, at int) {
	t.Helper()
	for i := at - 1; i >= 0; i-- {
		turn(t, x, swap.Undo(x, i, moves[i])...)
	}
}

// digits is a path in a directory, by a number's digits.
func digits(dir string, i int) string { return dir + "/" + strconv.Itoa(i) }
