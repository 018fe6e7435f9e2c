package swap_test

import (
	"fmt"
	"slices"
	"testing"

	"farrier/api"
	"farrier/arc"
	"farrier/base"
	"farrier/dep"
	"farrier/swap"
	"farrier/tree"
	"farrier/txn"
)

func TestExampleOfAPackageThatComes(t *testing.T) {
	a := pkg("a", file("/bin/a", "x"))
	planned(t, "a comes", stand(t), of(), of(a), []arc.Pkg{a}, dir("/bin"), put("/bin/a"))
}

func TestData(t *testing.T) {
	come := []arc.Pkg{
		pkg("b", file("/b", "one"), file("/c", "two"), file("/e", "")),
		pkg("a"),
		pkg("c", file("/a", "three"), file("/c", "four"), file("/d", "five"), file("/d", "six")),
	}
	for _, c := range []struct {
		p, data string
		ok      bool
	}{
		{"/b", "one", true}, {"/c", "two", true}, {"/a", "three", true}, {"/d", "five", true}, {"/e", "", true},
		{"/x", "", false}, {"/", "", false}, {"", "", false}, {"b", "", false}, {"/b/", "", false}, {"/b/c", "", false}, {"\xff", "", false},
	} {
		if b, ok := swap.Data(come, c.p); string(b) != c.data || ok != c.ok {
			t.Errorf("Data tells %q, %v of %q", b, ok, c.p)
		}
	}
	if b, ok := swap.Data(nil, "/b"); b != nil || ok {
		t.Errorf("Data tells %q, %v where nothing comes", b, ok)
	}
	// What is no path is found as it is said, too.
	if b, ok := swap.Data([]arc.Pkg{pkg("", file("", "x"))}, ""); string(b) != "x" || !ok {
		t.Errorf("Data tells %q, %v", b, ok)
	}
}

func TestNothingComesNorGoes(t *testing.T) {
	a := pkg("a", file("/a", "x"), config("/b", "x"), file("/c", "x"))
	x := stand(t, create("/a", "x"), create("/b", "y"))
	planned(t, "nothing", x, of(a), of(a), nil)
	planned(t, "nothing, and nothing is there", x, of(), of(), nil)
	planned(t, "a package of nothing comes", x, of(a), of(a, pkg("b")), []arc.Pkg{pkg("b")})
	planned(t, "a package of nothing goes", x, of(a, pkg("b")), of(a), nil)
}

// What stands at the path at which a file comes, and whose that is.
func TestWhatStandsWhereAFileComes(t *testing.T) {
	comes := pkg("a", file("/d/f", "new"))
	for _, c := range []struct {
		what string
		was  base.Base
		ops  []tree.Op
		want []txn.Move
		f    dep.Fault
	}{
		{"nothing, nor its directory", of(), nil, []txn.Move{dir("/d"), put("/d/f")}, dep.Fault{}},
		{"nothing", of(), []tree.Op{mkdir("/d")}, []txn.Move{put("/d/f")}, dep.Fault{}},
		{"nothing, though it was owned", of(pkg("a", file("/d/f", "new"))), []tree.Op{mkdir("/d")}, []txn.Move{put("/d/f")}, dep.Fault{}},
		{"nothing, nor its directory, though it was owned", of(pkg("a", config("/d/f", "old"))), nil, []txn.Move{dir("/d"), put("/d/f")}, dep.Fault{}},
		{"another file of its own", of(pkg("a", file("/d/f", "old"))), []tree.Op{mkdir("/d"), create("/d/f", "old")}, []txn.Move{put("/d/f")}, dep.Fault{}},
		{"another file of its own, which users turned, though it isn't theirs", of(pkg("a", file("/d/f", "old"))), []tree.Op{mkdir("/d"), create("/d/f", "mine")}, []txn.Move{put("/d/f")}, dep.Fault{}},
		{"a file of its own, with these very bytes", of(pkg("a", file("/d/f", "new"))), []tree.Op{mkdir("/d"), create("/d/f", "new")}, nil, dep.Fault{}},
		{"a file of its own, to which users gave these very bytes", of(pkg("a", file("/d/f", "old"))), []tree.Op{mkdir("/d"), create("/d/f", "new")}, nil, dep.Fault{}},
		{"the users' file, as it came", of(pkg("a", config("/d/f", "old"))), []tree.Op{mkdir("/d"), create("/d/f", "old")}, []txn.Move{put("/d/f")}, dep.Fault{}},
		{"the users' file, as it came, with these very bytes", of(pkg("a", config("/d/f", "new"))), []tree.Op{mkdir("/d"), create("/d/f", "new")}, nil, dep.Fault{}},
		{"the users' file, which they turned", of(pkg("a", config("/d/f", "old"))), []tree.Op{mkdir("/d"), create("/d/f", "mine")}, nil, dep.Fault{}},
		{"the users' file, which they emptied", of(pkg("a", config("/d/f", "old"))), []tree.Op{mkdir("/d"), create("/d/f", "")}, nil, dep.Fault{}},
		{"the users' file, which they gave these very bytes", of(pkg("a", config("/d/f", "old"))), []tree.Op{mkdir("/d"), create("/d/f", "new")}, nil, dep.Fault{}},
		{"the users' file, which they turned, and that comes as it did", of(pkg("a", config("/d/f", "new"))), []tree.Op{mkdir("/d"), create("/d/f", "mine")}, nil, dep.Fault{}},
		{"another package's file", of(pkg("z", file("/d/f", "old"))), []tree.Op{mkdir("/d"), create("/d/f", "old")}, []txn.Move{put("/d/f")}, dep.Fault{}},
		{"another package's file, which is the users', and turned", of(pkg("z", config("/d/f", "old"))), []tree.Op{mkdir("/d"), create("/d/f", "mine")}, nil, dep.Fault{}},
		{"a file that no package owned", of(), []tree.Op{mkdir("/d"), create("/d/f", "old")}, nil, owned("a", "/d/f")},
		{"a file that no package owned, with these very bytes", of(pkg("a", file("/d", "new"))), []tree.Op{mkdir("/d"), create("/d/f", "new")}, nil, owned("a", "/d/f")},
		{"a directory", of(), []tree.Op{mkdir("/d"), mkdir("/d/f")}, nil, owned("a", "/d/f")},
		{"a directory, though it was owned", of(pkg("a", file("/d/f", "old"))), []tree.Op{mkdir("/d"), mkdir("/d/f")}, nil, owned("a", "/d/f")},
		{"nothing, but a file above it", of(), []tree.Op{create("/d", "x")}, nil, owned("a", "/d/f")},
		{"nothing, but a file of its own above it", of(pkg("a", file("/d", "x"))), []tree.Op{create("/d", "x")}, nil, owned("a", "/d/f")},
		{"nothing, but a file above it, and it was owned", of(pkg("a", file("/d/f", "x"))), []tree.Op{create("/d", "x")}, nil, owned("a", "/d/f")},
	} {
		x := stand(t, c.ops...)
		now := c.was.Without("z").With(base.Of(comes))
		if c.f.E == api.OK {
			planned(t, c.what, x, c.was, now, []arc.Pkg{comes}, c.want...)
		} else {
			refused(t, c.what, x, c.was, now, []arc.Pkg{comes}, c.f)
		}
	}
}

// It is the package that was there by which a file is the users', not the one that comes.
func TestWhoSaysThatAFileIsTheUsers(t *testing.T) {
	x := stand(t, create("/f", "mine"))
	for _, c := range []struct {
		what string
		was  arc.File
		now  arc.File
		want []txn.Move
	}{
		{"it was, and isn't any more", config("/f", "old"), file("/f", "new"), nil},
		{"it wasn't, and is", file("/f", "old"), config("/f", "new"), []txn.Move{put("/f")}},
		{"it was, and is", config("/f", "old"), config("/f", "new"), nil},
		{"it wasn't, nor is", file("/f", "old"), file("/f", "new"), []txn.Move{put("/f")}},
		{"it was, and wasn't turned", config("/f", "mine"), config("/f", "new"), []txn.Move{put("/f")}},
	} {
		a, b := pkg("a", c.was), pkg("a", c.now)
		planned(t, c.what, x, of(a), of(b), []arc.Pkg{b}, c.want...)
	}
	a, none := pkg("a", config("/f", "old")), pkg("a")
	planned(t, "it was, and goes", x, of(a), of(none), []arc.Pkg{none})
	a = pkg("a", file("/f", "old"))
	planned(t, "it wasn't, and goes", x, of(a), of(none), []arc.Pkg{none}, drop("/f"))
}

// What stands at a path that no package has any more.
func TestWhatStandsWhereAFileGoes(t *testing.T) {
	for _, c := range []struct {
		what string
		was  arc.File
		ops  []tree.Op
		want []txn.Move
	}{
		{"the file", file("/d/f", "old"), []tree.Op{mkdir("/d"), create("/d/f", "old")}, []txn.Move{drop("/d/f")}},
		{"the file, which users turned, though it isn't theirs", file("/d/f", "old"), []tree.Op{mkdir("/d"), create("/d/f", "mine")}, []txn.Move{drop("/d/f")}},
		{"the users' file, as it came", config("/d/f", "old"), []tree.Op{mkdir("/d"), create("/d/f", "old")}, []txn.Move{drop("/d/f")}},
		{"the users' file, which they turned", config("/d/f", "old"), []tree.Op{mkdir("/d"), create("/d/f", "mine")}, nil},
		{"the users' empty file, as it came", config("/d/f", ""), []tree.Op{mkdir("/d"), create("/d/f", "")}, []txn.Move{drop("/d/f")}},
		{"nothing", file("/d/f", "old"), []tree.Op{mkdir("/d")}, nil},
		{"nothing, nor its directory", file("/d/f", "old"), nil, nil},
		{"nothing, but a file above it", file("/d/f", "old"), []tree.Op{create("/d", "old")}, nil},
		{"a directory", file("/d/f", "old"), []tree.Op{mkdir("/d"), mkdir("/d/f")}, nil},
		{"a directory, of which it is said that it is the users'", config("/d/f", ""), []tree.Op{mkdir("/d"), mkdir("/d/f")}, nil},
	} {
		x := stand(t, c.ops...)
		a, b := pkg("a", c.was), pkg("b")
		planned(t, c.what+", and a goes", x, of(a), of(), nil, c.want...)
		planned(t, c.what+", and a goes, and b comes", x, of(a), of(b), []arc.Pkg{b}, c.want...)
		planned(t, c.what+", and a comes without it", x, of(a, b), of(pkg("a"), b), []arc.Pkg{pkg("a")}, c.want...)
		planned(t, c.what+", and b goes", x, of(a, b), of(a), nil)
	}
}

func TestDirectoriesThatCome(t *testing.T) {
	a := pkg("a", file("/u/l/i/b/a", "x"))
	b := pkg("b", file("/u/bin/b", "x"), file("/u/l/b", "x"), file("/w/b", "x"))
	planned(t, "all", stand(t), of(), of(a), []arc.Pkg{a},
		dir("/u"), dir("/u/l"), dir("/u/l/i"), dir("/u/l/i/b"), put("/u/l/i/b/a"))
	planned(t, "those that aren't there", stand(t, mkdir("/u"), mkdir("/u/l")), of(), of(a), []arc.Pkg{a},
		dir("/u/l/i"), dir("/u/l/i/b"), put("/u/l/i/b/a"))
	planned(t, "each once", stand(t), of(), of(a, b), []arc.Pkg{b, a},
		dir("/u"), dir("/u/bin"), put("/u/bin/b"), dir("/u/l"), put("/u/l/b"), dir("/u/l/i"), dir("/u/l/i/b"), put("/u/l/i/b/a"), dir("/w"), put("/w/b"))
	c := pkg("c", file("/d", "x"), file("/e/d", "x"), file("/e/d.f", "x"), file("/f/d/e", "x"))
	planned(t, "a file's path is no directory's", stand(t), of(), of(c), []arc.Pkg{c},
		put("/d"), dir("/e"), put("/e/d"), put("/e/d.f"), dir("/f"), dir("/f/d"), put("/f/d/e"))
	planned(t, "none for a file that is there", stand(t, mkdir("/w"), create("/w/b", "x"), mkdir("/u"), mkdir("/u/bin"), create("/u/bin/b", "y")), of(b), of(b), []arc.Pkg{b},
		put("/u/bin/b"), dir("/u/l"), put("/u/l/b"))
}

// Moves stand in the order of paths, whatever the order of packages is; those by which files go stand behind all others.
func TestTheOrderOfMoves(t *testing.T) {
	old := pkg("a", file("/a", "x"), file("/c", "x"), file("/d/f", "x"), file("/x", "x"))
	b := pkg("b", file("/b", "x"), file("/e/f", "x"))
	c := pkg("a", file("/a", "y"), file("/a-", "y"), file("/y", "y"), file("/z", "y"))
	x := stand(t, create("/a", "x"), create("/c", "x"), mkdir("/d"), create("/d/f", "x"), create("/x", "x"))
	want := []txn.Move{put("/a"), put("/a-"), put("/b"), dir("/e"), put("/e/f"), put("/y"), put("/z"), drop("/c"), drop("/d/f"), drop("/x")}
	planned(t, "b, and a", x, of(old), of(b, c), []arc.Pkg{b, c}, want...)
	planned(t, "a, and b", x, of(old), of(b, c), []arc.Pkg{c, b}, want...)
}

// Files that packages have which neither come nor go are no concern of it.
func TestFilesThatStay(t *testing.T) {
	a := pkg("a", file("/a", "x"), config("/c", "x"), file("/d/f", "x"), file("/g", "x"))
	b := pkg("b", file("/b", "x"))
	x := stand(t, create("/a", "y"), create("/c", "y"), mkdir("/g"))
	planned(t, "b comes", x, of(a), of(a, b), []arc.Pkg{b}, put("/b"))
	turn(t, x, create("/b", "x"))
	planned(t, "b goes", x, of(a, b), of(a), nil, drop("/b"))
}

// A file may go over from one package to another one.
func TestFilesThatGoOver(t *testing.T) {
	a, b := pkg("a", file("/f", "one"), file("/g", "one")), pkg("b", file("/f", "two"))
	x := stand(t, create("/f", "one"), create("/g", "one"))
	planned(t, "a goes, b comes", x, of(a), of(b), []arc.Pkg{b}, put("/f"), drop("/g"))
	b = pkg("b", file("/f", "one"))
	planned(t, "with the same bytes", x, of(a), of(b), []arc.Pkg{b}, drop("/g"))
	c := pkg("a", file("/h", "one"))
	planned(t, "a comes without it", x, of(a), of(b, c), []arc.Pkg{c, b}, put("/h"), drop("/g"))
}

// Of several faults the first one is told, by the files' paths.
func TestTheFirstFault(t *testing.T) {
	a := pkg("a", file("/b", "x"), file("/e", "x"))
	b := pkg("b", file("/a", "x"), file("/c", "x"), file("/d/f", "x"), file("/f/g/h", "x"))
	now, come := of(a, b), []arc.Pkg{b, a}
	x := stand(t, mkdir("/e"), create("/d", "x"), create("/c", "x"), mkdir("/b"), mkdir("/a"), create("/f", "x"))
	for _, c := range []struct {
		f    dep.Fault
		next tree.Op
	}{
		{owned("b", "/a"), rmdir("/a")}, {owned("a", "/b"), rmdir("/b")}, {owned("b", "/c"), unlink("/c")},
		{owned("b", "/d/f"), unlink("/d")}, {owned("a", "/e"), rmdir("/e")}, {owned("b", "/f/g/h"), unlink("/f")},
	} {
		refused(t, "some are wrong", x, of(), now, come, c.f)
		turn(t, x, c.next)
	}
	planned(t, "none is", x, of(), now, come,
		put("/a"), put("/b"), put("/c"), dir("/d"), put("/d/f"), put("/e"), dir("/f"), dir("/f/g"), put("/f/g/h"))
}

// many is packages with so many files in all, and as many directories besides as there are packages.
func many(files int) []arc.Pkg {
	var list []arc.Pkg
	for i := range files {
		if i%12 == 0 {
			list = append(list, pkg(fmt.Sprint("p", len(list))))
		}
		p := &list[len(list)-1]
		p.Files = append(p.Files, file(fmt.Sprintf("/%s/f%02d", p.Name, i), "x"))
	}
	return list
}

func TestHowManyMovesThereAre(t *testing.T) {
	for files := range 60 {
		come := many(files)
		x := stand(t)
		what := fmt.Sprint(files, " files come")
		if files+len(come) > 40 {
			refused(t, what, x, of(), of(come...), come, dep.Fault{E: api.ErrMany})
		} else if moves, f := swap.Plan(x, of(), of(come...), come); f != (dep.Fault{}) || len(moves) != files+len(come) {
			t.Errorf("%s: %d moves, %v", what, len(moves), f)
		}
		var ops []tree.Op
		for _, p := range come {
			ops = append(ops, mkdir("/"+p.Name))
			for _, f := range p.Files {
				ops = append(ops, create(f.Path, "y"))
			}
		}
		turn(t, x, ops...)
		what = fmt.Sprint(files, " files go")
		if files > 40 {
			refused(t, what, x, of(come...), of(), nil, dep.Fault{E: api.ErrMany})
		} else if moves, f := swap.Plan(x, of(come...), of(), nil); f != (dep.Fault{}) || len(moves) != files {
			t.Errorf("%s: %d moves, %v", what, len(moves), f)
		}
		both := slices.Concat(come, []arc.Pkg{pkg("q", file("/q/f", "x"), file("/q/g", "x"))})
		what = fmt.Sprint(files, " files go, two come")
		if files+3 > 40 {
			refused(t, what, x, of(come...), of(both[len(come):]...), both[len(come):], dep.Fault{E: api.ErrMany})
		} else if moves, f := swap.Plan(x, of(come...), of(both[len(come):]...), both[len(come):]); f != (dep.Fault{}) || len(moves) != files+3 {
			t.Errorf("%s: %d moves, %v", what, len(moves), f)
		}
	}
}

func TestAWrongOwnerIsToldAheadOfTooManyMoves(t *testing.T) {
	come := slices.Concat(many(50), []arc.Pkg{pkg("z", file("/z", "x"))})
	x := stand(t, mkdir("/z"))
	refused(t, "the last path is a directory's", x, of(), of(come...), come, owned("z", "/z"))
	turn(t, x, rmdir("/z"))
	refused(t, "too many come", x, of(), of(come...), come, dep.Fault{E: api.ErrMany})
}

// What isn't right, and packages that After wouldn't tell: it ends, and turns nothing.
func TestPlanOfWhatIsNotRight(t *testing.T) {
	x := stand(t, create("/f", "x"), mkdir("/d"))
	wrong := []string{"", "/", "f", "/f/", "//", "/f/g", "/a/b/c/d/e/f", "/\xff", "/var", "/var/db", "/d", "/d/.."}
	for _, p := range wrong {
		for _, q := range wrong {
			for _, data := range []string{"", "x"} {
				a, b := pkg("a", file(p, "y"), config(q, data)), pkg("", config(q, "z"), file(q, data))
				was, now := of(a), of(a, b)
				ahead := all(x)
				for _, come := range [][]arc.Pkg{nil, {a}, {b}, {b, a}, {pkg("c", file(p, "x"))}} {
					swap.Plan(x, was, now, come)
					swap.Plan(x, now, was, come)
					swap.Plan(tree.New(-1), now, was, come)
				}
				same(t, "behind wrong paths", x, ahead)
			}
		}
	}
}

func TestPlanTurnsNothingThatIsHandedIn(t *testing.T) {
	a, b := pkg("a", file("/a", "x"), config("/d/c", "x")), pkg("b", file("/b/b", "x"))
	x := stand(t, create("/a", "x"))
	was, now, come := of(a), of(b), []arc.Pkg{b}
	moves, _ := swap.Plan(x, was, now, come)
	want := []txn.Move{dir("/b"), put("/b/b"), drop("/a")}
	clear(moves)
	planned(t, "what was told is the asker's", x, was, now, come, want...)
	if !base.Same(was, of(a)) || !base.Same(now, of(b)) || string(come[0].Files[0].Data) != "x" {
		t.Error("what was handed in is turned")
	}
}
