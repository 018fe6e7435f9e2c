package proc_test

import (
	"math"
	"math/rand"
	"slices"
	"strings"
	"testing"

	"farrier/api"
	"farrier/disk"
	"farrier/proc"
	"farrier/tree"
	"farrier/vol"
)

func TestExampleOfWhatIsAskedToEnd(t *testing.T) {
	v := volume(t, "/a")
	turn(t, v, tree.Op{Kind: tree.Mkdir, Path: "/d"}, tree.Op{Kind: tree.Create, Path: "/d/c"})
	x := proc.New(v)
	spawned(t, "the example", 1, api.OK)(x.Spawn("u", "/a", "/d/c"))
	runs(t, "the example", x, proc.Proc{Pid: 1, Unit: "u", Maps: []int{2, 4}})
	told(t, "Kill", x.Kill(1), api.OK)
	runs(t, "behind Kill", x, proc.Proc{Pid: 1, Unit: "u", Maps: []int{2, 4}, Ending: true})
	if v.Held(2) != 1 || v.Held(4) != 1 {
		t.Error("what is to end has let a file go")
	}
	picked(t, "the example", true, api.OK)(x.Pick(1))
	runs(t, "behind Pick", x)
	if v.Held(2) != 0 || v.Held(4) != 0 {
		t.Error("what has ended holds a file")
	}
}

func TestNewTableIsEmpty(t *testing.T) {
	c := known("/a")
	x := proc.New(c)
	runs(t, "a new table", x)
	c.asked(t, "New")
}

func TestNothingRunsByAnyOtherNumber(t *testing.T) {
	c := known("/a")
	x := proc.New(c)
	refused := func(what string, pids ...int) {
		t.Helper()
		for _, pid := range pids {
			told(t, what+": Map", x.Map(pid, "/a"), api.ErrNone)
			told(t, what+": Map of what isn't there", x.Map(pid, "/none"), api.ErrNone)
			told(t, what+": Unmap", x.Unmap(pid, 2), api.ErrNone)
			told(t, what+": Kill", x.Kill(pid), api.ErrNone)
			picked(t, what, false, api.ErrNone)(x.Pick(pid))
			told(t, what+": Exit", x.Exit(pid), api.ErrNone)
			if p, ok := x.Get(pid); ok || p.Pid != 0 || p.Unit != "" || len(p.Maps) != 0 || p.Ending {
				t.Errorf("%s: Get(%d) tells %v, %v", what, pid, p, ok)
			}
		}
		c.asked(t, what)
	}
	refused("a new table", math.MinInt, -1, 0, 1, 2, math.MaxInt)
	for range 3 {
		x.Spawn("u", "/a")
	}
	told(t, "Exit", x.Exit(2), api.OK)
	c.asked(t, "three, one of which ended", "hold /a", "hold /a", "hold /a", "let /a")
	refused("three, one of which ended", math.MinInt, -1, 0, 2, 4, math.MaxInt)
	runs(t, "three, one of which ended", x, proc.Proc{Pid: 1, Unit: "u", Maps: []int{2}}, proc.Proc{Pid: 3, Unit: "u", Maps: []int{2}})
	x.Kill(1)
	x.Pick(1)
	x.Exit(3)
	c.said = nil
	refused("three that ended", 1, 2, 3, 4)
	x.Spawn("u", "/a")
	x.Reset(c)
	c.said = nil
	refused("behind a reset", 1, 2, 3, 4, 5)
}

func TestAsManyFilesAsThereMayBe(t *testing.T) {
	c := known("/a", "/b")
	x := proc.New(c)
	eight := []string{"/a", "/b", "/a", "/a", "/b", "/a", "/b", "/b"}
	spawned(t, "none", 1, api.OK)(x.Spawn("none"))
	spawned(t, "eight", 2, api.OK)(x.Spawn("eight", eight...))
	c.all(t, "eight", map[int]int{2: 4, 3: 4})
	c.said = nil
	spawned(t, "nine", 0, api.ErrMany)(x.Spawn("nine", append(eight, "/a")...))
	spawned(t, "nine that aren't there", 0, api.ErrMany)(x.Spawn("nine", make([]string, 9)...))
	spawned(t, "very many", 0, api.ErrMany)(x.Spawn("many", make([]string, 1000)...))
	told(t, "Map of a ninth one", x.Map(2, "/a"), api.ErrMany)
	told(t, "Map of a ninth one that isn't there", x.Map(2, "/none"), api.ErrMany)
	c.asked(t, "too many files")
	full := proc.Proc{Pid: 2, Unit: "eight", Maps: []int{2, 3, 2, 2, 3, 2, 3, 3}}
	runs(t, "too many files", x, proc.Proc{Pid: 1, Unit: "none"}, full)
	told(t, "Unmap", x.Unmap(2, 3), api.OK)
	told(t, "Map of an eighth one", x.Map(2, "/b"), api.OK)
	told(t, "Map of a ninth one again", x.Map(2, "/b"), api.ErrMany)
	full.Maps = []int{2, 2, 2, 3, 2, 3, 3, 3}
	for range 8 {
		told(t, "Map, from none on", x.Map(1, "/a"), api.OK)
	}
	told(t, "Map of a ninth one, from none on", x.Map(1, "/a"), api.ErrMany)
	runs(t, "from none on", x, proc.Proc{Pid: 1, Unit: "none", Maps: []int{2, 2, 2, 2, 2, 2, 2, 2}}, full)
	c.all(t, "from none on", map[int]int{2: 12, 3: 4})
	spawned(t, "behind all", 3, api.OK)(x.Spawn("u"))
}

func TestAsManyAsMayRunAtOnce(t *testing.T) {
	c := known("/a")
	x := proc.New(c)
	var want []proc.Proc
	for i := range 32 {
		spawned(t, "one of 32", i+1, api.OK)(x.Spawn("u", "/a"))
		want = append(want, proc.Proc{Pid: i + 1, Unit: "u", Maps: []int{2}})
	}
	c.said = nil
	spawned(t, "one more", 0, api.ErrFull)(x.Spawn("u", "/a"))
	spawned(t, "one more, without files", 0, api.ErrFull)(x.Spawn("u"))
	spawned(t, "one more, of a file that isn't there", 0, api.ErrFull)(x.Spawn("u", "/none"))
	spawned(t, "one more, of too many files", 0, api.ErrMany)(x.Spawn("u", make([]string, 9)...))
	c.asked(t, "one more")
	runs(t, "one more", x, want...)
	told(t, "Kill", x.Kill(7), api.OK)
	spawned(t, "one more, while one is to end", 0, api.ErrFull)(x.Spawn("u"))
	picked(t, "the one that is to end", true, api.OK)(x.Pick(7))
	spawned(t, "in the place of one that ended", 33, api.OK)(x.Spawn("u"))
	spawned(t, "one more again", 0, api.ErrFull)(x.Spawn("u"))
	x.Reset(c)
	for i := range 32 {
		spawned(t, "one of 32 behind a reset", 34+i, api.OK)(x.Spawn("u"))
	}
	spawned(t, "one more behind a reset", 0, api.ErrFull)(x.Spawn("u"))
}

func TestOneOfSeveralCannotBeHeld(t *testing.T) {
	c := known("/a", "/b", "/c", "/d", "/e", "/f", "/g")
	x := proc.New(c)
	spawned(t, "one", 1, api.OK)(x.Spawn("u", "/a", "/b"))
	good := []string{"/a", "/b", "/b", "/c", "/d", "/e", "/f"}
	for at := range 8 {
		for bad, e := range map[string]api.Errno{"/none": api.ErrNone, "/dir": api.ErrDir, "": api.ErrNone} {
			paths := slices.Insert(slices.Clone(good), at, bad)
			c.said = nil
			spawned(t, "one of several", 0, e)(x.Spawn("u", paths...))
			if slices.Contains(c.said, "hold /g") {
				t.Error("Spawn goes on behind the first error")
			}
			c.all(t, "one of several", map[int]int{2: 1, 3: 1})
		}
	}
	spawned(t, "the first of two errors", 0, api.ErrDir)(x.Spawn("u", "/a", "/dir", "/none"))
	spawned(t, "the first of two errors", 0, api.ErrNone)(x.Spawn("u", "/a", "/none", "/dir"))
	told(t, "Map of what isn't there", x.Map(1, "/none"), api.ErrNone)
	told(t, "Map of a directory", x.Map(1, "/dir"), api.ErrDir)
	runs(t, "one of several", x, proc.Proc{Pid: 1, Unit: "u", Maps: []int{2, 3}})
	spawned(t, "no number is used", 2, api.OK)(x.Spawn("u", good...))
	c.all(t, "behind all", map[int]int{2: 2, 3: 3, 4: 1, 5: 1, 6: 1, 7: 1})
}

func TestOneOfSeveralIsNoFileOfAVolume(t *testing.T) {
	v := volume(t, "/a", "/b")
	turn(t, v, tree.Op{Kind: tree.Mkdir, Path: "/d"})
	x := proc.New(v)
	for bad, e := range map[string]api.Errno{"/": api.ErrDir, "/d": api.ErrDir, "/c": api.ErrNone, "/a/b": api.ErrNone, "a": api.ErrNone, "": api.ErrNone, "/A": api.ErrNone, "/d/": api.ErrNone} {
		spawned(t, bad, 0, e)(x.Spawn("u", "/a", "/b", "/a", bad))
		if v.Held(2) != 0 || v.Held(3) != 0 {
			t.Errorf("%q: a file is held behind it", bad)
		}
	}
	runs(t, "refused ones", x)
	spawned(t, "behind refused ones", 1, api.OK)(x.Spawn("u", "/a"))
	for bad, e := range map[string]api.Errno{"/": api.ErrDir, "/d": api.ErrDir, "/c": api.ErrNone, "": api.ErrNone} {
		told(t, "Map of "+bad, x.Map(1, bad), e)
	}
	runs(t, "behind refused ones", x, proc.Proc{Pid: 1, Unit: "u", Maps: []int{2}})
}

func TestAFileThatIsThereMoreThanOnce(t *testing.T) {
	v := volume(t, "/a", "/b", "/c")
	x := proc.New(v)
	spawned(t, "several times", 1, api.OK)(x.Spawn("u", "/a", "/b", "/a", "/c", "/b", "/a"))
	told(t, "Map once more", x.Map(1, "/b"), api.OK)
	runs(t, "several times", x, proc.Proc{Pid: 1, Unit: "u", Maps: []int{2, 3, 2, 4, 3, 2, 3}})
	turn(t, v, unlink("/a"))
	for _, step := range []struct {
		file int
		maps []int
		held [3]int
	}{
		{2, []int{3, 2, 4, 3, 2, 3}, [3]int{2, 3, 1}},
		{3, []int{2, 4, 3, 2, 3}, [3]int{2, 2, 1}},
		{2, []int{4, 3, 2, 3}, [3]int{1, 2, 1}},
		{3, []int{4, 2, 3}, [3]int{1, 1, 1}},
		{2, []int{4, 3}, [3]int{0, 1, 1}},
		{4, []int{3}, [3]int{0, 1, 0}},
		{3, nil, [3]int{0, 0, 0}},
	} {
		loose := 0
		if v.Held(2) > 0 {
			loose = 1
		}
		if len(v.Loose()) != loose {
			t.Errorf("%v are loose, not %d", v.Loose(), loose)
		}
		told(t, "Unmap", x.Unmap(1, step.file), api.OK)
		runs(t, "behind Unmap", x, proc.Proc{Pid: 1, Unit: "u", Maps: step.maps})
		if held := [3]int{v.Held(2), v.Held(3), v.Held(4)}; held != step.held {
			t.Errorf("files are held %v times, not %v", held, step.held)
		}
		for i := range 6 {
			if !slices.Contains(step.maps, i) {
				told(t, "Unmap of what it doesn't have", x.Unmap(1, i), api.ErrNone)
			}
		}
	}
}

func TestUnmapIsOfOneAlone(t *testing.T) {
	v := volume(t, "/a", "/b")
	x := proc.New(v)
	x.Spawn("u", "/a", "/a")
	x.Spawn("v", "/a", "/b")
	told(t, "Unmap of what another one has", x.Unmap(1, 3), api.ErrNone)
	told(t, "Unmap", x.Unmap(2, 2), api.OK)
	told(t, "Unmap again", x.Unmap(2, 2), api.ErrNone)
	runs(t, "Unmap", x, proc.Proc{Pid: 1, Unit: "u", Maps: []int{2, 2}}, proc.Proc{Pid: 2, Unit: "v", Maps: []int{3}})
	if v.Held(2) != 2 || v.Held(3) != 1 {
		t.Errorf("files are held %d and %d times", v.Held(2), v.Held(3))
	}
	for _, i := range []int{math.MinInt, -1, 0, 1, 4, math.MaxInt} {
		told(t, "Unmap of no file", x.Unmap(1, i), api.ErrNone)
	}
}

func TestWhatIsToEndIsPicked(t *testing.T) {
	c := known("/a", "/b")
	x := proc.New(c)
	x.Spawn("u", "/a", "/b", "/a")
	x.Spawn("v", "/a")
	for range 3 {
		picked(t, "what isn't to end", false, api.OK)(x.Pick(1))
	}
	c.said = nil
	told(t, "Kill", x.Kill(1), api.OK)
	told(t, "Kill again", x.Kill(1), api.OK)
	c.asked(t, "Kill")
	picked(t, "another one", false, api.OK)(x.Pick(2))
	u := proc.Proc{Pid: 1, Unit: "u", Maps: []int{2, 3, 2}, Ending: true}
	runs(t, "what is to end", x, u, proc.Proc{Pid: 2, Unit: "v", Maps: []int{2}})
	told(t, "Unmap of what is to end", x.Unmap(1, 2), api.OK)
	told(t, "Map of what is to end", x.Map(1, "/b"), api.OK)
	u.Maps = []int{3, 2, 3}
	runs(t, "what is to end", x, u, proc.Proc{Pid: 2, Unit: "v", Maps: []int{2}})
	picked(t, "what is to end", true, api.OK)(x.Pick(1))
	picked(t, "what has ended", false, api.ErrNone)(x.Pick(1))
	c.all(t, "what has ended", map[int]int{2: 1})
	told(t, "Exit", x.Exit(2), api.OK)
	told(t, "Exit again", x.Exit(2), api.ErrNone)
	c.all(t, "what has ended now", nil)
	spawned(t, "a third one", 3, api.OK)(x.Spawn("w", "/b", "/b"))
	told(t, "Kill", x.Kill(3), api.OK)
	told(t, "Exit of what is to end", x.Exit(3), api.OK)
	c.all(t, "what was to end, and ended", nil)
	runs(t, "behind all", x)
}

func TestNumbersGoOn(t *testing.T) {
	v := volume(t, "/a")
	x, other := proc.New(v), proc.New(v)
	for i := range 50 {
		spawned(t, "one by one", i+1, api.OK)(x.Spawn("u", "/a"))
		switch i % 3 {
		case 0:
			told(t, "Exit", x.Exit(i+1), api.OK)
		case 1:
			told(t, "Kill", x.Kill(i+1), api.OK)
			picked(t, "one by one", true, api.OK)(x.Pick(i + 1))
		default:
			x.Reset(v)
		}
	}
	x.Reset(v)
	x.Reset(v)
	spawned(t, "behind two resets", 51, api.OK)(x.Spawn("u"))
	spawned(t, "another table", 1, api.OK)(other.Spawn("u"))
	runs(t, "behind all", x, proc.Proc{Pid: 51, Unit: "u"})
}

func TestReset(t *testing.T) {
	c, d := known("/a", "/b"), known("/b", "/c")
	x := proc.New(c)
	x.Spawn("u", "/a", "/b")
	x.Spawn("v", "/a")
	x.Kill(2)
	c.said = nil
	x.Reset(d)
	runs(t, "behind Reset", x)
	c.asked(t, "Reset")
	d.asked(t, "Reset")
	c.all(t, "behind Reset", map[int]int{2: 2, 3: 1})
	spawned(t, "of other files", 3, api.OK)(x.Spawn("w", "/b"))
	spawned(t, "of a file that isn't among the others", 0, api.ErrNone)(x.Spawn("w", "/c", "/a"))
	told(t, "Map", x.Map(3, "/c"), api.OK)
	runs(t, "of other files", x, proc.Proc{Pid: 3, Unit: "w", Maps: []int{2, 3}})
	d.all(t, "of other files", map[int]int{2: 1, 3: 1})
	told(t, "Unmap", x.Unmap(3, 2), api.OK)
	told(t, "Exit", x.Exit(3), api.OK)
	d.all(t, "behind all", nil)
	c.asked(t, "the other files' table")
}

func TestResetOfAVolumeThatIsOpenedAgain(t *testing.T) {
	d := disk.New(500)
	v, _ := vol.Open(d, 1000)
	turn(t, v, tree.Op{Kind: tree.Create, Path: "/a"}, tree.Op{Kind: tree.Create, Path: "/b"})
	x := proc.New(v)
	x.Spawn("u", "/a", "/b")
	turn(t, v, unlink("/a"))
	d.Crash(0)
	told(t, "Map without power", x.Map(1, "/b"), api.OK)
	d.On()
	now, e := vol.Open(d, 1000)
	told(t, "Open", e, api.OK)
	x.Reset(now)
	if v.Held(2) != 1 || v.Held(3) != 2 || now.Held(2) != 0 || now.Held(3) != 0 {
		t.Error("Reset lets files go, or holds some")
	}
	spawned(t, "what is gone", 0, api.ErrNone)(x.Spawn("u", "/b", "/a"))
	spawned(t, "what is there", 2, api.OK)(x.Spawn("u", "/b"))
	if v.Held(3) != 2 || now.Held(3) != 1 {
		t.Error("a file isn't held where it is")
	}
}

func TestFilesAreReplacedOrUnlinkedMeanwhile(t *testing.T) {
	v := volume(t, "/a", "/b")
	x := proc.New(v)
	x.Spawn("u", "/a", "/b")
	replace(t, v, "/a")
	spawned(t, "behind a replacement", 2, api.OK)(x.Spawn("v", "/a"))
	told(t, "Map behind a replacement", x.Map(1, "/a"), api.OK)
	turn(t, v, unlink("/b"))
	told(t, "Map of what was unlinked", x.Map(1, "/b"), api.ErrNone)
	u, w := proc.Proc{Pid: 1, Unit: "u", Maps: []int{2, 3, 4}}, proc.Proc{Pid: 2, Unit: "v", Maps: []int{4}}
	runs(t, "behind a replacement", x, u, w)
	if l := v.Loose(); !slices.Equal(l, []int{2, 3}) {
		t.Errorf("%v are loose", l)
	}
	told(t, "Unmap of what was unlinked", x.Unmap(1, 3), api.OK)
	if l := v.Loose(); !slices.Equal(l, []int{2}) {
		t.Errorf("%v are loose", l)
	}
	told(t, "Exit", x.Exit(1), api.OK)
	if l := v.Loose(); len(l) != 0 || v.Held(4) != 1 {
		t.Errorf("%v are loose, and the new file is held %d times", l, v.Held(4))
	}
	turn(t, v, tree.Op{Kind: tree.Rename, Path: "/a", To: "/c"})
	told(t, "Kill", x.Kill(2), api.OK)
	picked(t, "what has a file that was renamed", true, api.OK)(x.Pick(2))
	if _, there := v.Find("/c"); !there || v.Held(4) != 0 || v.Nodes() != 2 {
		t.Error("a file that stands somewhere is gone")
	}
}

func TestFilesThatAreLetGoMeanwhile(t *testing.T) {
	v := volume(t, "/a", "/b")
	x := proc.New(v)
	x.Spawn("u", "/a", "/a", "/b")
	turn(t, v, unlink("/a"))
	told(t, "Let", v.Let(2), api.OK)
	told(t, "Let", v.Let(2), api.OK)
	told(t, "Unmap of what was let go", x.Unmap(1, 2), api.OK)
	runs(t, "what was let go", x, proc.Proc{Pid: 1, Unit: "u", Maps: []int{2, 3}})
	told(t, "Exit", x.Exit(1), api.OK)
	runs(t, "behind Exit", x)
	if v.Held(3) != 0 {
		t.Error("behind a file that was let go the next one isn't")
	}
	spawned(t, "behind all", 2, api.OK)(x.Spawn("u", "/b"))
	told(t, "Let", v.Let(3), api.OK)
	told(t, "Kill", x.Kill(2), api.OK)
	picked(t, "what was let go", true, api.OK)(x.Pick(2))
}

func TestUnitsMayBeAnyText(t *testing.T) {
	x := proc.New(known())
	var want []proc.Proc
	for i, u := range []string{"", "web", "web", "/", "\x00\xff", strings.Repeat("long", 20)} {
		spawned(t, "any text", i+1, api.OK)(x.Spawn(u))
		want = append(want, proc.Proc{Pid: i + 1, Unit: u})
	}
	runs(t, "any text", x, want...)
}

func TestWhatIsToldMayBeTurned(t *testing.T) {
	c := known("/a", "/b", "/c")
	x := proc.New(c)
	x.Spawn("u", "/a", "/b", "/c")
	x.Spawn("v", "/c")
	u, w := proc.Proc{Pid: 1, Unit: "u", Maps: []int{2, 3, 4}}, proc.Proc{Pid: 2, Unit: "v", Maps: []int{4}}
	p, _ := x.Get(1)
	q, _ := x.Get(1)
	clear(p.Maps)
	_ = append(p.Maps[:1], 77)
	_ = append(q.Maps, 88)
	p.Unit, p.Ending, p.Pid = "other", true, 9
	list := x.List()
	clear(list)
	_ = append(list[:1], 77)
	runs(t, "what is told is turned", x, u, w)
	told(t, "Unmap", x.Unmap(1, 2), api.OK)
	told(t, "Map", x.Map(1, "/a"), api.OK)
	x.Kill(1)
	if !slices.Equal(q.Maps, []int{2, 3, 4}) || q.Ending {
		t.Errorf("what was told turns: %v", q)
	}
	u.Maps, u.Ending = []int{3, 4, 2}, true
	runs(t, "behind all", x, u, w)
}

func TestWhatIsHandedInMayBeTurned(t *testing.T) {
	c := known("/a", "/b")
	x := proc.New(c)
	for _, paths := range [][]string{{"/a", "/b", "/a"}, {"/a", "/none", "/b"}} {
		handed := slices.Clone(paths)
		x.Spawn("u", handed...)
		if !slices.Equal(handed, paths) {
			t.Errorf("Spawn turns %q to %q", paths, handed)
		}
		clear(handed)
	}
	runs(t, "what is handed in is turned", x, proc.Proc{Pid: 1, Unit: "u", Maps: []int{2, 3, 2}})
}

func TestAnyOrderOfCalls(t *testing.T) {
	for seed := range int64(150) {
		r := rand.New(rand.NewSource(seed))
		y := &both{v: volume(t, "/a", "/b", "/c", "/d"), m: &model{runs: map[int]proc.Proc{}}, r: r, most: 2 + r.Intn(60)}
		y.x = proc.New(y.v)
		for i := range 200 {
			y.step(t)
			y.holds(t)
			if t.Failed() {
				t.Fatalf("seed %d, call %d", seed, i)
			}
		}
	}
}

// both is a table over a volume, and its model.
type both struct {
	v    *vol.Vol
	x    *proc.Table
	m    *model
	r    *rand.Rand
	most int // the more, the more comes rather than ends
}

// path is a path at which a file stands, or doesn't; pid a number by which something runs, or doesn't.
func (y *both) path() string {
	return []string{"/a", "/b", "/c", "/d", "/a", "/b", "/c", "/d", "/none", "/", ""}[y.r.Intn(8+y.r.Intn(4))]
}

func (y *both) pid() int {
	if l := y.x.List(); len(l) > 0 && y.r.Intn(8) > 0 {
		return l[y.r.Intn(len(l))]
	}
	return y.r.Intn(y.m.last+3) - 1
}

// hold is what the volume should tell of paths.
func (y *both) hold(paths ...string) ([]int, api.Errno) {
	var ids []int
	for _, p := range paths {
		i, ok := y.v.Find(p)
		switch {
		case !ok:
			return nil, api.ErrNone
		case y.v.Dir(p):
			return nil, api.ErrDir
		}
		ids = append(ids, i)
	}
	return ids, api.OK
}

// step does something with the table and the model, or with the volume.
func (y *both) step(t *testing.T) {
	t.Helper()
	pid := y.pid()
	switch k := y.r.Intn(40 + y.most); {
	case k < 6:
		told(t, "Exit", y.x.Exit(pid), y.m.exit(pid))
	case k < 12:
		told(t, "Kill", y.x.Kill(pid), y.m.kill(pid))
	case k < 20:
		want, e := y.m.pick(pid)
		picked(t, "any order", want, e)(y.x.Pick(pid))
	case k < 28:
		p, _ := y.x.Get(pid)
		file := append(p.Maps, 2, y.r.Intn(9))[y.r.Intn(len(p.Maps)+2)]
		told(t, "Unmap", y.x.Unmap(pid, file), y.m.unmap(pid, file))
	case k < 36:
		s := y.path()
		ids, e := y.hold(s)
		told(t, "Map", y.x.Map(pid, s), y.m.mapped(pid, append(ids, 0)[0], e))
	case k < 40:
		y.turn(t, k)
	default:
		y.spawn(t)
	}
}

// turn replaces, unlinks or creates a file.
func (y *both) turn(t *testing.T, k int) {
	t.Helper()
	p := []string{"/a", "/b", "/c", "/d"}[y.r.Intn(4)]
	_, there := y.v.Find(p)
	switch {
	case !there:
		turn(t, y.v, tree.Op{Kind: tree.Create, Path: p})
	case k%2 == 0:
		turn(t, y.v, unlink(p))
	default:
		replace(t, y.v, p)
	}
}

func (y *both) spawn(t *testing.T) {
	t.Helper()
	paths := make([]string, y.r.Intn(5)*(1+y.r.Intn(3)))
	for i := range paths {
		paths[i] = y.path()
	}
	unit := []string{"u", "v", ""}[y.r.Intn(3)]
	ids, e := y.hold(paths...)
	want, wantE := y.m.spawn(unit, len(paths), ids, e)
	spawned(t, "any order", want, wantE)(y.x.Spawn(unit, paths...))
}

// holds holds the table, and what is held on the volume, against the model.
func (y *both) holds(t *testing.T) {
	t.Helper()
	var want []proc.Proc
	for _, p := range y.m.runs {
		want = append(want, p)
	}
	runs(t, "any order", y.x, want...)
	held := y.m.held()
	stands := map[int]bool{}
	for _, p := range []string{"/a", "/b", "/c", "/d"} {
		i, _ := y.v.Find(p)
		stands[i] = true
	}
	var loose []int
	for i := range 200 {
		if y.v.Held(i) != held[i] {
			t.Errorf("%d is held %d times, not %d", i, y.v.Held(i), held[i])
		}
		if held[i] > 0 && !stands[i] {
			loose = append(loose, i)
		}
	}
	if got := y.v.Loose(); !slices.Equal(got, loose) {
		t.Errorf("%v are loose, not %v", got, loose)
	}
}
