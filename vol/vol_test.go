package vol_test

import (
	"fmt"
	"math"
	"math/rand"
	"slices"
	"strings"
	"testing"

	"farrier/api"
	"farrier/disk"
	"farrier/log"
	"farrier/rec"
	"farrier/tree"
	"farrier/vol"
)

func TestExampleOfALooseFile(t *testing.T) {
	d, v, m := both(t, 200, 1000, create("/f", "one"))
	i, e := v.Hold("/f")
	told(t, "Hold", e, api.OK)
	m.hold("/f")
	do(t, v, m, api.OK, unlink("/f"))
	if l := v.Loose(); !slices.Equal(l, []int{i}) || v.Held(i) != 1 || v.Used() != 3 {
		t.Errorf("%v are loose, held %d times", l, v.Held(i))
	}
	told(t, "Let", v.Let(i), api.OK)
	m.let(i)
	if l := v.Loose(); len(l) != 0 || v.Held(i) != 0 || v.Used() != 0 || v.Nodes() != 1 {
		t.Errorf("%v are loose", l)
	}
	m.lies(t, "the example", d)
}

func TestOpenOfANewDisk(t *testing.T) {
	for _, sectors := range []int{6, 7, 8, 100, 4096} {
		for _, quota := range []int{math.MinInt, -1, 0, 1, 50, math.MaxInt} {
			d, v, m := both(t, sectors, quota)
			m.holds(t, "a new volume", v)
			m.lies(t, "a new volume", d)
			if v.Dead() {
				t.Error("a new volume is dead")
			}
		}
	}
}

func TestOpenTellsTheLogsErrors(t *testing.T) {
	refused := func(what string, d *disk.Disk, want api.Errno) {
		t.Helper()
		if v, e := vol.Open(d, 50); v != nil || e != want {
			t.Errorf("%s: Open tells %v, %d, not %d", what, v, e, want)
		}
	}
	for n := range 6 {
		d := disk.New(n)
		refused("too few sectors", d, api.ErrArg)
		d.Crash(0)
		refused("too few sectors, no power", d, api.ErrArg)
	}
	d, _, m := both(t, 100, 50, create("/f", "one"))
	d.Crash(0)
	refused("no power", d, api.ErrDown)
	d.On()
	m.lies(t, "power again", d)
	d = disk.New(100)
	d.Crash(0)
	refused("no power on a new disk", d, api.ErrDown)
	d.On()
	d.Plan(1, 0)
	refused("no power from the first step on", d, api.ErrDown)
	d.On()
	opened(t, d, 50)
}

// logged is a disk with a log of these records.
func logged(t *testing.T, list ...[]byte) *disk.Disk {
	t.Helper()
	d := disk.New(1000)
	l, e := log.Open(d)
	for _, b := range list {
		if e == api.OK {
			e = l.Append(b)
		}
	}
	told(t, "the log", e, api.OK)
	return d
}

// anew is the records of a volume that was kept anew, in several rows, and then turned by operations.
func anew(t *testing.T) (rows, ops [][]byte) {
	t.Helper()
	d, v, m := both(t, 1000, 10000)
	do(t, v, m, api.OK, create("/f", strings.Repeat("f", 3000)), create("/g", strings.Repeat("g", 3000)))
	do(t, v, m, api.OK, unlink("/g"))
	do(t, v, m, api.OK, mkdir("/d"))
	list := records(t, d)
	if len(list) != 4 {
		t.Fatalf("%d records, not two rows and two operations", len(list))
	}
	return list[:2], list[2:]
}

func TestOpenOfWhatIsNoTree(t *testing.T) {
	rows, ops := anew(t)
	whole := slices.Concat(rows, ops)
	made := opened(t, logged(t, whole...), 10000)
	if made.Nodes() != 3 || !made.Dir("/d") {
		t.Fatal("the volume's own records aren't a volume")
	}
	cut := func(b []byte) []byte { return b[:len(b)-1] }
	other := func(b []byte) []byte { return append([]byte{'?'}, b[1:]...) }
	for what, list := range map[string][][]byte{
		"an empty record":                   {nil},
		"a text":                            {[]byte("nonsense")},
		"a number":                          {rec.Num(7)},
		"operations alone":                  {tree.Pack(create("/f", ""))},
		"a dump alone":                      tree.New(5).Dump(),
		"an empty record behind all":        append(slices.Clone(whole), nil),
		"an empty record ahead":             slices.Concat([][]byte{nil}, whole),
		"an empty record amidst":            slices.Concat(rows, [][]byte{nil}, ops),
		"rows behind operations":            slices.Concat(ops, rows),
		"rows behind one that can be ahead": {ops[1], rows[0], rows[1]},
		"operations between rows":           {rows[0], ops[1], rows[1]},
		"a row alone":                       {rows[0]},
		"the other row alone":               {rows[1]},
		"rows in another order":             {rows[1], rows[0]},
		"rows twice":                        slices.Concat(rows, rows),
		"a row that is cut":                 {rows[0], cut(rows[1])},
		"a byte behind the rows":            {rows[0], append(slices.Clone(rows[1]), 0)},
		"a row of another kind":             {rows[0], other(rows[1])},
		"operations without their tree":     ops[:1],
		"operations twice":                  slices.Concat(rows, ops, ops[:1]),
		"operations that are cut":           slices.Concat(rows, [][]byte{cut(ops[0])}),
		"operations that are cut, and more": slices.Concat(rows, [][]byte{cut(ops[0])}, ops[1:]),
		"a byte behind operations":          slices.Concat(rows, [][]byte{append(slices.Clone(ops[0]), 0)}),
		"operations of another kind":        slices.Concat(rows, [][]byte{other(ops[0])}),
	} {
		d := logged(t, list...)
		steps := d.Steps()
		for range 2 {
			if v, e := vol.Open(d, 10000); v != nil || e != api.ErrLost {
				t.Errorf("%s: Open tells %v, %d", what, v, e)
			}
		}
		if d.Steps() != steps {
			t.Errorf("%s: Open writes", what)
		}
	}
}

func TestOpenOfTurnedRecords(t *testing.T) {
	rows, ops := anew(t)
	r := rand.New(rand.NewSource(14))
	for range 3000 {
		list := slices.Concat(rows, ops)
		for range 1 + r.Intn(2) {
			i := r.Intn(len(list))
			b := append(slices.Clone(list[i]), 0)
			b = b[:max(1, len(list[i]))]
			switch at := r.Intn(min(40, len(b))); r.Intn(3) {
			case 0:
				b[at] = byte(r.Intn(256))
			case 1:
				b[len(b)-1-at] = byte(r.Intn(8))
			default:
				b = b[:at]
			}
			list[i] = b
		}
		v, e := vol.Open(logged(t, list...), 10000)
		if (v == nil) != (e == api.ErrLost) || v != nil && e != api.OK {
			t.Fatalf("Open tells %v, %d", v, e)
		}
		if v != nil {
			v.Do(create("/new", ""))
			v.Hold("/f")
			v.Do(unlink("/f"))
		}
	}
}

func TestDoIsTheTreesDo(t *testing.T) {
	d, v, m := both(t, 1000, 50)
	for _, c := range []struct {
		o tree.Op
		e api.Errno
	}{
		{mkdir("/d"), api.OK}, {create("/d/f", "one"), api.OK}, {link("/d/f", "/g"), api.OK}, {create("/h", "two"), api.OK},
		{rename("/h", "/d/f"), api.OK}, {writeTo("/g", "three"), api.OK}, {rename("/g", "/g"), api.OK}, {mkdir("/e"), api.OK},
		{rmdir("/e"), api.OK}, {unlink("/g"), api.OK}, {create("/g", ""), api.OK},
		{tree.Op{Kind: 7, Path: "/f"}, api.ErrArg}, {tree.Op{Kind: -1, Path: "/f"}, api.ErrArg}, {create("f", ""), api.ErrName},
		{mkdir("/"), api.ErrName}, {create("/x/f", ""), api.ErrNone}, {create("/g/f", ""), api.ErrFile},
		{create("/x", strings.Repeat("x", 3501)), api.ErrLong}, {mkdir("/d"), api.ErrTwice}, {create("/g", ""), api.ErrTwice},
		{unlink("/x"), api.ErrNone}, {rmdir("/g"), api.ErrFile}, {rmdir("/d"), api.ErrBusy}, {unlink("/d"), api.ErrDir},
		{link("/g", "/"), api.ErrName}, {link("/g", "/x/y"), api.ErrNone}, {rename("/g", "/d/f/x"), api.ErrFile},
		{link("/g", "/d/f"), api.ErrTwice}, {rename("/g", "/d"), api.ErrDir}, {create("/x", strings.Repeat("x", 48)), api.ErrQuota},
	} {
		do(t, v, m, c.e, c.o)
		m.lies(t, "behind each", d)
	}
	do(t, v, m, api.OK)
	do(t, v, m, api.OK, mkdir("/e"), create("/e/f", "x"), rename("/e/f", "/d/f"), rmdir("/e"))
	do(t, v, m, api.ErrNone, mkdir("/e"), create("/e/f", "x"), rename("/e/f", "/d/f"), unlink("/e/f"), rmdir("/e"))
	m.lies(t, "all of them, or none", d)
	var many []tree.Op
	for i := range 128 - v.Nodes() {
		many = append(many, mkdir(fmt.Sprintf("/m%d", i)))
	}
	do(t, v, m, api.ErrFull, append(many, mkdir("/more"))...)
	do(t, v, m, api.OK, many...)
	do(t, v, m, api.ErrFull, mkdir("/more"))
	m.lies(t, "full of nodes", d)
}

func TestWhatATreeIsAskedForAVolumeIs(t *testing.T) {
	_, v, m := both(t, 200, 100, mkdir("/d"), create("/d/f", "one"))
	was := v.Tree
	if i, ok := v.Find("/d/f"); i != 3 || !ok || !v.Dir("/d") || v.Used() != 3 || v.Nodes() != 3 {
		t.Errorf("/d/f is %d", i)
	}
	c := v.Clone()
	told(t, "the clone's Do", c.Do(unlink("/d/f")), api.OK)
	m.holds(t, "behind a clone's Do", v)
	do(t, v, m, api.OK, create("/g", "two"))
	sameTree(t, "the tree that the volume had", was, m.tree)
	if _, ok := c.Find("/g"); ok {
		t.Error("a clone is turned by the volume's Do")
	}
}

func TestRecordsOfOperations(t *testing.T) {
	d, v, m := both(t, 400, 20000)
	do(t, v, m, api.OK)
	do(t, v, m, api.OK, create("/f", ""))
	do(t, v, m, api.OK, mkdir("/d"), link("/f", "/d/g"), writeTo("/f", strings.Repeat("x", 700)))
	if want := []int{1, 19, 23 - 5 + 1 + 16 + 2 + 4 + 16 + 2 + 700}; !slices.Equal(m.lens, want) {
		t.Errorf("the model has records of %v bytes, not of %v", m.lens, want)
	}
	m.lies(t, "operations", d)
}

func TestRecordThatIsTooLong(t *testing.T) {
	// Two operations with a byte each, and more: 32 bytes beside the paths and the data; the record has one more.
	long := func(n int) []tree.Op {
		return []tree.Op{create("/f", strings.Repeat("f", 3000)), create("/g", strings.Repeat("g", n-1-32-4-3000))}
	}
	for _, n := range []int{4095, 4096, 4097, 4098, 6000} {
		d, v, m := both(t, 1000, 20000, mkdir("/a"))
		do(t, v, m, api.OK, long(n)...)
		if n <= 4096 && !slices.Equal(m.lens, []int{19, n}) || n > 4096 && (m.lens[0] == 19 || slices.Contains(m.lens, n)) {
			t.Errorf("for a record of %d bytes there are records of %v", n, m.lens)
		}
		m.lies(t, "a long record", d)
		do(t, v, m, api.OK, rename("/f", "/g"))
		m.lies(t, "a record behind a long one", d)
		v = opened(t, d, 20000)
		do(t, v, m, api.OK, rename("/g", "/a/h"))
		m.lies(t, "one more behind opening", d)
	}
	// Where neither the record is short enough nor the tree has room, nothing is turned.
	d, v, m := both(t, 60, 20000, mkdir("/a"))
	steps := d.Steps()
	do(t, v, m, api.ErrFull, long(5000)...)
	if d.Steps() != steps {
		t.Error("what is refused is written")
	}
	m.lies(t, "a long record without room", d)
}

func TestNoRoomForTheRecord(t *testing.T) {
	// Each half has 5 sectors: five records fill it; then the whole tree is kept anew, as often as need be.
	d, v, m := both(t, 12, 1000, create("/f", ""), writeTo("/f", "1"), writeTo("/f", "22"), writeTo("/f", "3"), writeTo("/f", "44"))
	if len(m.lens) != 5 || room(m.lens) != 5 {
		t.Fatalf("records of %v bytes don't fill the half", m.lens)
	}
	m.lies(t, "a full half", d)
	for i := range 40 {
		do(t, v, m, api.OK, writeTo("/f", strings.Repeat("x", i)))
		m.lies(t, "full again and again", d)
		if i%7 == 3 {
			v = opened(t, d, 1000)
		}
	}
	steps := d.Steps()
	for range 3 {
		do(t, v, m, api.ErrFull, writeTo("/f", strings.Repeat("y", 400)))
		do(t, v, m, api.ErrFull, create("/g", strings.Repeat("y", 400)))
		if d.Steps() != steps {
			t.Error("what is refused is written")
		}
		m.lies(t, "what has no room", d)
	}
	if v.Dead() {
		t.Error("without room it is dead")
	}
	do(t, v, m, api.OK, create("/g", ""))
	if i, _ := v.Find("/g"); i != 3 {
		t.Errorf("what was refused has used numbers: %d", i)
	}
	m.lies(t, "what has room again", d)
}

func TestQuotaOfWhatIsKeptAnew(t *testing.T) {
	d, v, m := both(t, 1000, 6000)
	do(t, v, m, api.OK, create("/f", strings.Repeat("f", 3000)), create("/g", strings.Repeat("g", 2000)))
	if len(m.lens) != 2 || m.lens[0] != 4096 {
		t.Fatalf("records of %v bytes aren't a tree's rows", m.lens)
	}
	for range 2 {
		do(t, v, m, api.ErrQuota, create("/h", strings.Repeat("h", 1001)))
		v = opened(t, d, 6000)
	}
	do(t, v, m, api.OK, create("/h", strings.Repeat("h", 1000)))
	m.lies(t, "all bytes that there is room for", d)
}

func TestRoomToTheSector(t *testing.T) {
	for _, sectors := range []int{6, 7, 8, 9, 10, 13, 40, 41, 60} {
		d, v, m := both(t, sectors, 20000)
		n := 0
		for m.clone().do(create("/f", strings.Repeat("x", n))) == api.OK {
			n++
		}
		do(t, v, m, api.ErrFull, create("/f", strings.Repeat("x", n)))
		m.lies(t, "a byte too many", d)
		do(t, v, m, api.OK, create("/f", strings.Repeat("x", n-1)))
		m.lies(t, "as many bytes as there is room for", d)
	}
}

func TestSecondPathsThatNobodyAsksFor(t *testing.T) {
	for _, n := range []int{1, 40, 41, 42, 100, 1000, 4000, 5000} {
		d, v, m := both(t, 400, 5000)
		to := strings.Repeat("-", n)
		with := func(o tree.Op) tree.Op { o.To = to; return o }
		do(t, v, m, api.OK, with(mkdir("/d")), with(create("/d/f", "one")))
		do(t, v, m, api.OK, with(create("/g", "---")))
		m.lies(t, "long second paths", d)
		do(t, v, m, api.OK, with(writeTo("/g", "-")), rename("/d/f", "/h"))
		do(t, v, m, api.OK, with(unlink("/g")))
		do(t, v, m, api.OK, with(rmdir("/d")), link("/h", "/i"))
		m.lies(t, "long second paths of all kinds", d)
		do(t, v, m, api.ErrName, link("/h", to))
		do(t, v, m, api.ErrName, rename("/h", to))
		m.lies(t, "long second paths that are asked for", d)
	}
	ops := []tree.Op{{Kind: tree.Create, Path: "/f", To: "-----", Data: []byte("one")}}
	_, v, m := both(t, 100, 50)
	do(t, v, m, api.OK, ops...)
	if ops[0].To != "-----" {
		t.Error("what was handed in is turned")
	}
}

func TestHoldTellsNumbers(t *testing.T) {
	_, v, m := both(t, 200, 100, mkdir("/d"), create("/d/f", "one"), link("/d/f", "/g"), create("/h", ""))
	for _, c := range []struct {
		p string
		i int
		e api.Errno
	}{
		{"/d/f", 3, api.OK}, {"/g", 3, api.OK}, {"/h", 4, api.OK}, {"/d/f", 3, api.OK},
		{"/", 0, api.ErrDir}, {"/d", 0, api.ErrDir}, {"/x", 0, api.ErrNone}, {"/d/x", 0, api.ErrNone}, {"/g/x", 0, api.ErrNone}, {"/x/y", 0, api.ErrNone},
		{"", 0, api.ErrNone}, {"g", 0, api.ErrNone}, {"/g/", 0, api.ErrNone}, {"//g", 0, api.ErrNone}, {"/G", 0, api.ErrNone}, {"/..", 0, api.ErrNone}, {"/d/f/..", 0, api.ErrNone},
		{strings.Repeat("/d", 50), 0, api.ErrNone},
	} {
		i, e := v.Hold(c.p)
		if i != c.i || e != c.e {
			t.Errorf("Hold %q tells %d, %d", c.p, i, e)
		}
		m.hold(c.p)
		m.holds(t, "behind Hold "+c.p, v)
	}
	if v.Held(3) != 3 || v.Held(4) != 1 || v.Held(1) != 0 || v.Held(2) != 0 {
		t.Error("what is held is told wrongly")
	}
	for _, i := range []int{math.MinInt, -1, 0, 1, 2, 5, 99, math.MaxInt} {
		told(t, "Let of what nobody holds", v.Let(i), api.ErrNone)
		if v.Held(i) != 0 {
			t.Errorf("%d is held", i)
		}
		m.holds(t, "behind Let", v)
	}
}

func TestLetAsOftenAsHeld(t *testing.T) {
	d, v, m := both(t, 200, 100, create("/f", "one"), link("/f", "/g"))
	for range 3 {
		v.Hold("/f")
		m.hold("/f")
	}
	let := func(want api.Errno, held, loose int) {
		t.Helper()
		told(t, "Let", v.Let(2), want)
		m.let(2)
		m.holds(t, "behind Let", v)
		if v.Held(2) != held || len(v.Loose()) != loose {
			t.Errorf("held %d times, %d loose, not %d, %d", v.Held(2), len(v.Loose()), held, loose)
		}
	}
	do(t, v, m, api.OK, unlink("/f"))
	if len(v.Loose()) != 0 {
		t.Error("what stands at another path is loose")
	}
	let(api.OK, 2, 0)
	do(t, v, m, api.OK, unlink("/g"))
	do(t, v, m, api.OK, create("/f", "two"))
	do(t, v, m, api.OK)
	let(api.OK, 1, 1)
	let(api.OK, 0, 0)
	let(api.ErrNone, 0, 0)
	if v.Used() != 3 {
		t.Errorf("%d bytes are used", v.Used())
	}
	// What stands somewhere stays, however often it is let go.
	i, _ := v.Hold("/f")
	told(t, "Let", v.Let(i), api.OK)
	told(t, "Let", v.Let(i), api.ErrNone)
	m.holds(t, "behind letting go what stands", v)
	do(t, v, m, api.OK, unlink("/f"))
	if len(v.Loose()) != 0 || v.Nodes() != 1 {
		t.Error("what nobody holds is loose")
	}
	m.lies(t, "behind all", d)
}

func TestLooseFilesInOneDo(t *testing.T) {
	d, v, m := both(t, 400, 100, create("/a", "aa"), create("/b", "bbb"), create("/c", "cccc"))
	v.Hold("/b")
	m.hold("/b")
	do(t, v, m, api.OK, rename("/a", "/b"), rename("/b", "/c"), create("/x", "x"), unlink("/x"))
	if l := v.Loose(); !slices.Equal(l, []int{3}) || v.Used() != 5 || v.Nodes() != 3 {
		t.Errorf("%v are loose, %d bytes", l, v.Used())
	}
	v.Hold("/c")
	m.hold("/c")
	do(t, v, m, api.OK, unlink("/c"))
	do(t, v, m, api.OK, create("/n", ""))
	if l := v.Loose(); !slices.Equal(l, []int{2, 3}) {
		t.Errorf("%v are loose", l)
	}
	m.let(3)
	v.Let(3)
	m.holds(t, "one of two let go", v)
	m.lies(t, "loose files", d)
	// What was held isn't held in what is opened, nor is it there.
	again := opened(t, d, 100)
	if again.Held(2) != 0 || len(again.Loose()) != 0 || again.Used() != 0 || again.Let(2) != api.ErrNone {
		t.Error("something is held, or loose, behind the next opening")
	}
	m.reopen()
	do(t, again, m, api.OK, create("/m", ""))
	if i, _ := again.Find("/m"); i != 7 {
		t.Errorf("the number %d is used, not 7", i)
	}
}

func TestLooseFilesHaveRoom(t *testing.T) {
	d, v, m := both(t, 400, 10, create("/f", "123456"))
	v.Hold("/f")
	m.hold("/f")
	do(t, v, m, api.ErrQuota, create("/g", "12345"), rename("/g", "/f"))
	do(t, v, m, api.OK, create("/g", "1234"), rename("/g", "/f"))
	do(t, v, m, api.ErrQuota, create("/h", "x"))
	// Without it there is room, in what is opened then too, where it is written anew meanwhile.
	m.lies(t, "full of a loose file", d)
	told(t, "Let", v.Let(2), api.OK)
	m.let(2)
	do(t, v, m, api.OK, create("/h", "123456"))
	v.Hold("/h")
	m.hold("/h")
	do(t, v, m, api.OK, unlink("/h"))
	v = opened(t, d, 10)
	m.reopen()
	do(t, v, m, api.OK, create("/h", "123456"))
	m.lies(t, "full again", d)

	var many []tree.Op
	for i := range 126 {
		many = append(many, create(fmt.Sprintf("/m%d", i), ""))
	}
	d, v, m = both(t, 1000, 10, create("/f", ""))
	v.Hold("/f")
	m.hold("/f")
	do(t, v, m, api.OK, unlink("/f"))
	do(t, v, m, api.OK, many...)
	do(t, v, m, api.ErrFull, mkdir("/d"))
	v.Let(2)
	m.let(2)
	do(t, v, m, api.OK, mkdir("/d"))
	m.lies(t, "full of nodes", d)
}

func TestLooseFilesWhereTheTreeIsKeptAnew(t *testing.T) {
	d, v, m := both(t, 12, 1000, create("/f", "one"), link("/f", "/g"))
	v.Hold("/f")
	m.hold("/f")
	do(t, v, m, api.OK, unlink("/f"), unlink("/g"))
	for i := range 20 {
		do(t, v, m, api.OK, create("/n", strings.Repeat("n", i)))
		do(t, v, m, api.OK, unlink("/n"))
		m.lies(t, "beside a loose file", d)
	}
	if l := v.Loose(); !slices.Equal(l, []int{2}) {
		t.Errorf("%v are loose", l)
	}
	told(t, "Let", v.Let(2), api.OK)
	m.let(2)
	m.holds(t, "let go", v)
}

func TestWhatIsHandedInAndToldMayBeTurned(t *testing.T) {
	data := []byte("one")
	ops := []tree.Op{{Kind: tree.Create, Path: "/f", Data: data}}
	d, v, m := both(t, 200, 100)
	do(t, v, m, api.OK, ops...)
	if string(data) != "one" || ops[0].Path != "/f" || ops[0].Kind != tree.Create {
		t.Error("what was handed in is turned")
	}
	copy(data, "xxx")
	ops[0] = unlink("/f")
	b, _ := v.Read("/f")
	if string(b) != "one" {
		t.Errorf("/f is %q", b)
	}
	copy(b, "yyy")
	again := opened(t, d, 100)
	for _, v := range []*vol.Vol{v, again} {
		if b, e := v.Read("/f"); string(b) != "one" || e != api.OK {
			t.Errorf("/f is %q", b)
		}
	}
}

func TestTwoVolumesAreApart(t *testing.T) {
	_, v, m := both(t, 200, 100, create("/f", "one"))
	d, w, n := both(t, 200, 100)
	v.Hold("/f")
	m.hold("/f")
	do(t, w, n, api.OK, create("/g", "two"))
	d.Crash(0)
	if !w.Dead() || v.Dead() {
		t.Error("the wrong one is dead")
	}
	do(t, v, m, api.OK, unlink("/f"))
	n.holds(t, "the other one", w)
}
