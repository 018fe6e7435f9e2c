package need_test

import (
	"math"
	"strings"
	"testing"

	"farrier/api"
	"farrier/mgr"
	"farrier/need"
	"farrier/proc"
	"farrier/tree"
	"farrier/unit"
)

func TestExampleOfAFileThatIsRenamedOver(t *testing.T) {
	v := volume(t, "/c")
	m := over(t, v, plain("v", "/c"))
	bring(t, m, "v", mgr.On)
	hit(t, "its file is as it was", v, m)
	replace(t, v, "/c")
	hit(t, "another file is renamed over it", v, m, "v")
}

func TestWhatIsStale(t *testing.T) {
	v := volume(t, "/a", "/b")
	turn(t, v, mkdir("/d"), create("/d/f"), link("/d/f", "/g"))
	a, b, d, f := number(t, v, "/a"), number(t, v, "/b"), number(t, v, "/d"), number(t, v, "/d/f")
	for _, c := range []struct {
		what string
		p    string
		file int
		want bool
	}{
		{"the file stands there", "/a", a, false},
		{"it stands in a directory", "/d/f", f, false},
		{"it stands at its second path", "/g", f, false},
		{"another file stands there", "/a", b, true},
		{"another file stands there, of a lesser number", "/b", a, true},
		{"a directory stands there", "/d", a, true},
		{"the root stands there", "/", a, true},
		{"nothing stands there", "/x", a, true},
		{"nothing stands there, in a directory", "/d/a", a, true},
		{"nothing stands in a file", "/a/a", a, true},
		{"there is no such directory", "/x/a", a, true},
		{"it is no path", "a", a, true},
		{"it is no path, as a blank is behind it", "/a ", a, true},
		{"it is no path, as a slash is behind it", "/a/", a, true},
		{"it is empty", "", a, true},
		{"it is too long", "/" + strings.Repeat("a/", 30) + "a", a, true},
		{"there is no file of that number", "/a", d + 100, true},
		{"no file has the number 0", "/a", 0, true},
		{"nothing stands there, and no file has the number 0", "/x", 0, true},
		{"no path, and no file has the number 0", "", 0, true},
		{"a number below 0", "/a", -a, true},
		{"the least number", "/a", math.MinInt, true},
		{"the greatest number", "/a", math.MaxInt, true},
	} {
		if got := need.Stale(v, c.p, c.file); got != c.want {
			t.Errorf("%s: Stale tells %v of %q and %d", c.what, got, c.p, c.file)
		}
	}
}

func TestWhatMakesAFileStale(t *testing.T) {
	for _, c := range []struct {
		what string
		ops  []tree.Op
		want bool
	}{
		{"nothing was done", nil, false},
		{"it was written", []tree.Op{write("/d/f")}, false},
		{"it stands elsewhere, too", []tree.Op{link("/d/f", "/z")}, false},
		{"its second path is gone", []tree.Op{unlink("/g")}, false},
		{"its second path is another file's", []tree.Op{create("/z"), rename("/z", "/g")}, false},
		{"its second path was renamed", []tree.Op{rename("/g", "/z")}, false},
		{"it was renamed over itself", []tree.Op{rename("/g", "/d/f")}, false},
		{"a file beside it came", []tree.Op{create("/d/e")}, false},
		{"it was unlinked", []tree.Op{unlink("/d/f")}, true},
		{"all its paths were unlinked", []tree.Op{unlink("/d/f"), unlink("/g")}, true},
		{"its directory is gone, too", []tree.Op{unlink("/d/f"), rmdir("/d")}, true},
		{"it was renamed", []tree.Op{rename("/d/f", "/z")}, true},
		{"it was renamed in its directory", []tree.Op{rename("/d/f", "/d/e")}, true},
		{"it was renamed to its second path's name", []tree.Op{unlink("/g"), rename("/d/f", "/g")}, true},
		{"another file was renamed over it", []tree.Op{create("/z"), rename("/z", "/d/f")}, true},
		{"a file of the same bytes was renamed over it", []tree.Op{create("/z", "one"), rename("/z", "/d/f")}, true},
		{"another file came behind it", []tree.Op{unlink("/d/f"), create("/d/f", "one")}, true},
		{"a second path of another file came behind it", []tree.Op{unlink("/d/f"), link("/o", "/d/f")}, true},
		{"a directory came behind it", []tree.Op{unlink("/d/f"), mkdir("/d/f")}, true},
		{"it went, and came back", []tree.Op{rename("/d/f", "/z"), rename("/z", "/d/f")}, false},
		{"it was unlinked, and came back", []tree.Op{unlink("/d/f"), link("/g", "/d/f")}, false},
		{"another one was renamed over it, and it came back", []tree.Op{rename("/o", "/d/f"), rename("/g", "/d/f")}, false},
		{"its directory is another one", []tree.Op{rename("/d/f", "/z"), rmdir("/d"), mkdir("/d"), rename("/z", "/d/f")}, false},
	} {
		v := volume(t, "/o")
		turn(t, v, mkdir("/d"), create("/d/f", "one"), link("/d/f", "/g"))
		m := over(t, v, plain("a", "/d/f"), plain("b", "/o"))
		bring(t, m, "a", mgr.On)
		f := number(t, v, "/d/f")
		turn(t, v, c.ops...)
		if got := need.Stale(v, "/d/f", f); got != c.want {
			t.Errorf("%s: Stale tells %v", c.what, got)
		}
		if c.want {
			hit(t, c.what, v, m, "a")
		} else {
			hit(t, c.what, v, m)
		}
	}
}

// One file may stand at two paths: only the one with which the unit was started counts.
func TestThePathAtWhichAFileWas(t *testing.T) {
	v := volume(t, "/f")
	turn(t, v, link("/f", "/g"))
	m := over(t, v, plain("a", "/f"), plain("b", "/g"), plain("c", "/f", "/g"))
	for _, n := range []string{"a", "b", "c"} {
		bring(t, m, n, mgr.On)
	}
	replace(t, v, "/f")
	hit(t, "/f was replaced", v, m, "a", "c")
	turn(t, v, link("/f", "/h"), rename("/g", "/f"))
	hit(t, "the file stands at /f again, and no more at /g", v, m, "b", "c")
	turn(t, v, rename("/h", "/g"))
	hit(t, "the other one stands at /g", v, m, "b", "c")
	turn(t, v, unlink("/g"), link("/f", "/g"))
	hit(t, "the file stands at both again", v, m)
}

func TestUnitsInEachState(t *testing.T) {
	for state, said := range states {
		v := volume(t, "/a", "/b")
		m := over(t, v, plain("a", "/a"), plain("b", "/b"))
		bring(t, m, "a", state)
		bring(t, m, "b", state)
		hit(t, said+", as it was", v, m)
		replace(t, v, "/a")
		if state == mgr.Off || state == mgr.Failed {
			hit(t, said+", and its file was replaced", v, m)
		} else {
			hit(t, said+", and its file was replaced", v, m, "a")
		}
		turn(t, v, unlink("/b"))
		if state == mgr.Off || state == mgr.Failed {
			hit(t, said+", and its file was unlinked", v, m)
		} else {
			hit(t, said+", and its file was unlinked", v, m, "a", "b")
		}
	}
}

func TestWhichOfItsFilesIsStale(t *testing.T) {
	paths := []string{"/a", "/b", "/c", "/d", "/e", "/f", "/g", "/h"}
	for many := 1; many <= len(paths); many++ {
		for i, p := range paths[:many] {
			v := volume(t, paths...)
			m := over(t, v, plain("u", paths[:many]...))
			bring(t, m, "u", mgr.On)
			hit(t, "ahead", v, m)
			if i%2 == 0 {
				replace(t, v, p)
			} else {
				turn(t, v, unlink(p))
			}
			hit(t, "behind "+p, v, m, "u")
		}
		if many == len(paths) {
			break
		}
		v := volume(t, paths...)
		m := over(t, v, plain("u", paths[:many]...))
		bring(t, m, "u", mgr.On)
		replace(t, v, paths[many])
		hit(t, "a file that it doesn't have was replaced", v, m)
	}
}

// Files that change places are all where another one was.
func TestFilesThatAreInEachOthersPlaces(t *testing.T) {
	v := volume(t, "/a", "/b")
	m := over(t, v, plain("u", "/a", "/b"), plain("w", "/b", "/a"))
	bring(t, m, "u", mgr.On)
	bring(t, m, "w", mgr.On)
	turn(t, v, rename("/a", "/x"), rename("/b", "/a"), rename("/x", "/b"))
	hit(t, "they changed places", v, m, "u", "w")
	turn(t, v, rename("/a", "/x"), rename("/b", "/a"), rename("/x", "/b"))
	hit(t, "they changed places again", v, m)
}

func TestOnePathTwice(t *testing.T) {
	v := volume(t, "/a", "/b")
	m := over(t, v, plain("u", "/a", "/a", "/b"))
	bring(t, m, "u", mgr.On)
	hit(t, "all are as they were", v, m)
	replace(t, v, "/b")
	hit(t, "the last one was replaced", v, m, "u")
}

func TestUnitsThatStartAnew(t *testing.T) {
	v := volume(t, "/a")
	m := over(t, v, plain("u", "/a"))
	bring(t, m, "u", mgr.On)
	replace(t, v, "/a")
	hit(t, "it runs with what was there", v, m, "u")
	told(t, "Stop", m.Stop("u"), api.OK)
	hit(t, "it is stopping", v, m, "u")
	told(t, "Pick", m.Pick(m.Pid("u")), api.OK)
	hit(t, "it stopped", v, m)
	told(t, "Start", m.Start("u"), api.OK)
	hit(t, "it started with what is there", v, m)
	replace(t, v, "/a")
	hit(t, "it was replaced again", v, m, "u")
	told(t, "Ready", m.Ready("u"), api.OK)
	hit(t, "and it came to run", v, m, "u")
	told(t, "Fail", m.Fail("u"), api.OK)
	hit(t, "it failed", v, m)
}

func TestAUnitThatIsTriedAgain(t *testing.T) {
	v := volume(t, "/a")
	u := plain("u", "/a")
	u.Retry = 1
	m := over(t, v, u)
	bring(t, m, "u", mgr.Starting)
	replace(t, v, "/a")
	hit(t, "it is starting with what was there", v, m, "u")
	told(t, "Fail", m.Fail("u"), api.OK)
	hit(t, "it is tried again with what is there", v, m)
}

// A unit's files may be said otherwise meanwhile: it runs with those with which it was started.
func TestUnitsThatAreOthersMeanwhile(t *testing.T) {
	v := volume(t, "/a", "/b")
	m := over(t, v, plain("u", "/a"), plain("w", "/b"))
	bring(t, m, "u", mgr.On)
	bring(t, m, "w", mgr.On)
	m.Set(of(t, plain("u", "/b")))
	hit(t, "u has another file from now on, and w isn't there any more", v, m)
	replace(t, v, "/b")
	hit(t, "the file of w was replaced", v, m, "w")
	replace(t, v, "/a")
	hit(t, "the file with which u was started was replaced", v, m, "u", "w")
	m.Set(of(t))
	hit(t, "there is no unit", v, m, "u", "w")
	m.Lose(v)
	hit(t, "all is lost", v, m)
}

func TestWhatTheManagerDoesNotKnow(t *testing.T) {
	v := volume(t, "/a", "/b")
	x := proc.New(v)
	_, e := x.Spawn("u", "/a")
	told(t, "Spawn", e, api.OK)
	m := mgr.New(x)
	replace(t, v, "/a")
	hit(t, "something runs for a unit that is off", v, m)
	m.Set(of(t, plain("u", "/b")))
	hit(t, "the unit is there, and off", v, m)
	bring(t, m, "u", mgr.On)
	hit(t, "it was started, with another file", v, m)
	for _, n := range []string{"", "x", "u ", "\xff"} {
		if need.Of(v, m, n) {
			t.Errorf("Of tells true of %q, which there never was", n)
		}
	}
}

func TestUnitsInOrder(t *testing.T) {
	var units []unit.Unit
	for _, n := range []string{"b", "a", "ab", "a-", "z", "0", "a.b", "_", "aa"} {
		units = append(units, plain(n, "/f"))
	}
	v := volume(t, "/f")
	m := over(t, v, units...)
	for _, u := range units {
		bring(t, m, u.Name, mgr.On)
	}
	hit(t, "ahead", v, m)
	replace(t, v, "/f")
	hit(t, "behind", v, m, "0", "_", "a", "a-", "a.b", "aa", "ab", "b", "z")
	told(t, "Fail", m.Fail("aa"), api.OK)
	told(t, "Start", m.Start("aa"), api.OK)
	hit(t, "one of them started anew", v, m, "0", "_", "a", "a-", "a.b", "ab", "b", "z")
}

func TestNothingIsTurnedByAsking(t *testing.T) {
	v := volume(t, "/a", "/b")
	m := over(t, v, plain("u", "/a"), plain("w", "/b"))
	bring(t, m, "u", mgr.On)
	bring(t, m, "w", mgr.Starting)
	replace(t, v, "/a")
	replace(t, v, "/b")
	i, _ := m.Get(m.Pid("u"))
	list := need.Hit(v, m)
	list[0], list[1] = "x", "y"
	hit(t, "what was told is the asker's", v, m, "u", "w")
	if v.Held(i.Maps[0]) != 1 || len(m.Has("u")) != 1 || m.State("u") != mgr.On || m.State("w") != mgr.Starting {
		t.Error("asking turned what was asked for")
	}
	if e := m.Events(); len(e) != 3 {
		t.Errorf("what has happened is %v", e)
	}
}

// The volume that is asked is the one that is handed in.
func TestAnotherVolume(t *testing.T) {
	v, w := volume(t, "/a"), volume(t, "/b", "/a")
	m := over(t, v, plain("u", "/a"))
	bring(t, m, "u", mgr.On)
	hit(t, "its own volume", v, m)
	hit(t, "one in which another file is there", w, m, "u")
}
