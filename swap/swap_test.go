package swap_test

import (
	"fmt"
	"slices"
	"testing"

	"farrier/api"
	"farrier/arc"
	"farrier/swap"
	"farrier/tree"
	"farrier/txn"
)

func TestThePlacesOfAnUpgrade(t *testing.T) {
	if got := []string{swap.Stage, swap.Old, swap.New, swap.Db, swap.Txn}; !slices.Equal(got, []string{"/var/stage", "/var/old", "/var/new", "/var/db", "/var/txn"}) {
		t.Errorf("they are %q", got)
	}
}

func TestLayout(t *testing.T) {
	asked(t, "Layout", swap.Layout(), mkdir("/var"), mkdir("/var/stage"), mkdir("/var/old"), mkdir("/var/new"), mkdir("/var/db"))
	x := tree.New(0)
	if e := x.Do(swap.Layout()...); e != api.OK || x.Nodes() != 6 {
		t.Errorf("Layout is refused: %d", e)
	}
	ops := swap.Layout()
	clear(ops)
	asked(t, "Layout again", swap.Layout(), mkdir("/var"), mkdir("/var/stage"), mkdir("/var/old"), mkdir("/var/new"), mkdir("/var/db"))
}

func TestAside(t *testing.T) {
	for _, i := range []int{0, 1, 7, 9, 10, 39} {
		asked(t, "a file that is put", swap.Aside(i, put("/d/f"), []byte("one")), create(digits("/var/stage", i), "one"))
		asked(t, "an empty one", swap.Aside(i, put("/d/f"), nil), create(digits("/var/stage", i), ""))
		asked(t, "a directory", swap.Aside(i, dir("/d"), []byte("one")))
		asked(t, "a file that goes", swap.Aside(i, drop("/d/f"), []byte("one")))
		asked(t, "no move", swap.Aside(i, txn.Move{Kind: 3, Path: "/d/f"}, []byte("one")))
		asked(t, "no move below these", swap.Aside(i, txn.Move{Kind: -1, Path: "/d/f"}, []byte("one")))
	}
}

func TestDo(t *testing.T) {
	x := stand(t, mkdir("/d"), create("/d/f", "x"), create("/g", "x"), mkdir("/e"))
	for i := range 40 {
		stage, old := digits("/var/stage", i), digits("/var/old", i)
		for _, c := range []struct {
			what string
			m    txn.Move
			want []tree.Op
		}{
			{"a directory", dir("/h"), []tree.Op{mkdir("/h")}},
			{"a directory where one stands", dir("/d"), []tree.Op{mkdir("/d")}},
			{"a file", put("/d/g"), []tree.Op{rename(stage, "/d/g")}},
			{"a file where one stands", put("/d/f"), []tree.Op{link("/d/f", old), rename(stage, "/d/f")}},
			{"a file where another one stands", put("/g"), []tree.Op{link("/g", old), rename(stage, "/g")}},
			{"a file where a directory stands", put("/e"), []tree.Op{link("/e", old), rename(stage, "/e")}},
			{"a file in no directory", put("/h/g"), []tree.Op{rename(stage, "/h/g")}},
			{"a file in a file", put("/g/g"), []tree.Op{rename(stage, "/g/g")}},
			{"a file at no path", put("g"), []tree.Op{rename(stage, "g")}},
			{"a file that goes", drop("/d/f"), []tree.Op{rename("/d/f", old)}},
			{"a file that goes, where none stands", drop("/h"), []tree.Op{rename("/h", old)}},
			{"no move", txn.Move{Kind: 3, Path: "/d/f"}, nil},
			{"no move below these", txn.Move{Kind: -1, Path: "/d/f"}, nil},
		} {
			ahead := all(x)
			asked(t, c.what, swap.Do(x, i, c.m), c.want...)
			same(t, c.what, x, ahead)
		}
	}
}

func TestUndo(t *testing.T) {
	x := stand(t, mkdir("/d"), create("/d/f", "x"), create("/var/old/1", "x"), create("/var/old/12", "x"), mkdir("/var/old/3"), create("/var/stage/2", "x"))
	for i := range 40 {
		old := digits("/var/old", i)
		for _, p := range []string{"/d/f", "/d/g", "/h", "/h/i", "/d", ""} {
			ahead := all(x)
			asked(t, "a directory", swap.Undo(x, i, dir(p)), rmdir(p))
			for _, m := range []txn.Move{put(p), drop(p)} {
				if i == 1 || i == 12 {
					asked(t, "there is a file in Old", swap.Undo(x, i, m), rename(old, p))
				} else {
					asked(t, "there is no such file in Old", swap.Undo(x, i, m), unlink(p))
				}
			}
			same(t, "behind Undo", x, ahead)
		}
	}
}

func TestClean(t *testing.T) {
	x := stand(t)
	asked(t, "nothing is laid aside", swap.Clean(x))
	asked(t, "there are no places", swap.Clean(tree.New(0)))
	turn(t, x, create("/var/txn", "x"))
	asked(t, "an upgrade", swap.Clean(x), unlink("/var/txn"))
	turn(t, x,
		create("/var/new/b", "x"), create("/var/new/a", "x"), create("/var/old/9", "x"), create("/var/old/10", "x"), create("/var/stage/7", "x"),
		create("/var/db/a", "x"), create("/var/x", "x"), create("/x", "x"), mkdir("/stage"), create("/stage/1", "x"))
	ahead := all(x)
	ops := swap.Clean(x)
	asked(t, "all kinds", ops,
		unlink("/var/stage/7"), unlink("/var/old/10"), unlink("/var/old/9"), unlink("/var/new/a"), unlink("/var/new/b"), unlink("/var/txn"))
	same(t, "as it is asked for", x, ahead)
	turn(t, x, ops...)
	for _, o := range ops {
		delete(ahead, o.Path)
	}
	same(t, "behind it", x, ahead)
	asked(t, "again", swap.Clean(x))
	y := tree.New(100)
	turn(t, y, create("/var", "x"))
	asked(t, "a file stands at the places' directory's path", swap.Clean(y))
	y = tree.New(100)
	turn(t, y, mkdir("/var"), create("/var/stage", "x"), mkdir("/var/new"), create("/var/new/a", "x"), create("/var/txn", ""))
	asked(t, "a file stands in a place's path", swap.Clean(y), unlink("/var/new/a"), unlink("/var/txn"))
}

func TestCommit(t *testing.T) {
	asked(t, "nothing", swap.Commit(nil, nil))
	asked(t, "nothing, said by empty lists", swap.Commit([]string{}, []string{}))
	asked(t, "some come", swap.Commit([]string{"b", "a"}, nil), rename("/var/new/b", "/var/db/b"), rename("/var/new/a", "/var/db/a"))
	asked(t, "some go", swap.Commit(nil, []string{"b", "a"}), unlink("/var/db/b"), unlink("/var/db/a"))
	asked(t, "some come and go", swap.Commit([]string{"b", "c"}, []string{"a-1.x"}),
		rename("/var/new/b", "/var/db/b"), rename("/var/new/c", "/var/db/c"), unlink("/var/db/a-1.x"))
	for _, n := range []string{"", "/", "a/b", ".", "..", "A", "\xff"} {
		x := stand(t)
		ahead := all(x)
		if e := x.Do(swap.Commit([]string{n}, nil)...); e == api.OK {
			t.Errorf("%q comes, which is no name", n)
		}
		if e := x.Do(swap.Commit(nil, []string{n})...); e == api.OK {
			t.Errorf("%q goes, which is no name", n)
		}
		same(t, "behind no name", x, ahead)
	}
}

// An upgrade, from its beginning to its end; and back, from each of its moves.
func TestAWholeUpgrade(t *testing.T) {
	other := pkg("other", file("/bin/other", "x"))
	was := of(other,
		pkg("gone", file("/bin/gone", "gone"), config("/etc/gone", "x"), file("/bin/lost", "x")),
		pkg("web", file("/bin/old", "old"), file("/bin/web", "one"), config("/etc/mine", "x"), config("/etc/theirs", "x")),
	)
	come := []arc.Pkg{
		pkg("web", file("/bin/web", "two"), config("/etc/mine", "y"), config("/etc/theirs", "y"), file("/lib/web/a", "a"), file("/lib/web/b", "")),
		pkg("next", file("/bin/gone", "next")),
	}
	now := of(other, come[0], come[1])
	begun := func() *tree.Tree {
		return stand(t,
			mkdir("/bin"), mkdir("/etc"), create("/bin/gone", "gone"), create("/etc/gone", "x"), create("/bin/old", "old"), create("/bin/web", "one"),
			create("/etc/mine", "mine"), create("/etc/theirs", "x"), create("/bin/other", "x"),
			create("/var/db/gone", "gone"), create("/var/db/web", "web 1"), create("/var/db/other", "other"))
	}
	x := begun()
	want := []txn.Move{put("/bin/gone"), put("/bin/web"), put("/etc/theirs"), dir("/lib"), dir("/lib/web"), put("/lib/web/a"), put("/lib/web/b"), drop("/bin/old"), drop("/etc/gone")}
	planned(t, "the upgrade", x, was, now, come, want...)
	for at := range len(want) + 1 {
		x := begun()
		ahead := all(x)
		aside(t, x, want, come)
		done(t, x, want, at)
		undone(t, x, want, at)
		turn(t, x, swap.Clean(x)...)
		same(t, fmt.Sprint(at, " moves are done and undone"), x, ahead)
	}
	turn(t, x, create("/var/txn", "x"), create("/var/new/web", "web 2"), create("/var/new/next", "next"))
	aside(t, x, want, come)
	done(t, x, want, len(want))
	turn(t, x, swap.Commit([]string{"web", "next"}, []string{"gone"})...)
	turn(t, x, swap.Clean(x)...)
	got := map[string]string{}
	for p, n := range all(x) {
		if !n.dir {
			got[p] = n.data
		}
	}
	for p, data := range map[string]string{
		"/bin/gone": "next", "/bin/web": "two", "/etc/theirs": "y", "/etc/mine": "mine", "/lib/web/a": "a", "/lib/web/b": "", "/bin/other": "x",
		"/var/db/web": "web 2", "/var/db/next": "next", "/var/db/other": "other",
	} {
		if have, ok := got[p]; !ok || have != data {
			t.Errorf("at %s stands %q, %v", p, have, ok)
		}
		delete(got, p)
	}
	if len(got) > 0 {
		t.Errorf("there stands more: %v", got)
	}
}

// What stands at several paths is one file behind all, too.
func TestFilesAtSeveralPaths(t *testing.T) {
	a, b := pkg("a", file("/f", "x"), file("/g", "x"), file("/h", "x")), pkg("a", file("/f", "y"), file("/g", "z"))
	x := stand(t, create("/f", "x"), link("/f", "/g"), link("/f", "/h"), link("/f", "/k"))
	ahead := all(x)
	moves := []txn.Move{put("/f"), put("/g"), drop("/h")}
	planned(t, "all are one", x, of(a), of(b), []arc.Pkg{b}, moves...)
	aside(t, x, moves, []arc.Pkg{b})
	done(t, x, moves, 3)
	for p, data := range map[string]string{"/f": "y", "/g": "z", "/k": "x"} {
		if b, _ := x.Read(p); string(b) != data {
			t.Errorf("at %s stands %q", p, b)
		}
	}
	if _, ok := x.Find("/h"); ok {
		t.Error("/h is still there")
	}
	undone(t, x, moves, 3)
	same(t, "all are undone", x, ahead)
}
