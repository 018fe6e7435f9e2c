package log_test

import (
	"bytes"
	"math"
	"math/big"
	"math/rand"
	"slices"
	"testing"

	"farrier/api"
	"farrier/disk"
	"farrier/log"
)

// none and all are the writes that a lost power keeps.
const (
	none = uint64(0)
	all  = ^uint64(0)
)

// filled is a record of n bytes that hang on a number.
func filled(n, seed int) []byte {
	b := make([]byte, n)
	x := uint32(seed)
	for i := range b {
		x = x*1664525 + 1013904223
		b[i] = byte(x >> 24)
	}
	return b
}

// list is records of these lengths, each with other bytes.
func list(seed int, lens ...int) [][]byte {
	var out [][]byte
	for i, n := range lens {
		out = append(out, filled(n, 1000*seed+i))
	}
	return out
}

func equal(a, b [][]byte) bool { return slices.EqualFunc(a, b, bytes.Equal) }

// lens is how long records are, to tell them by.
func lens(list [][]byte) []int {
	out := []int{}
	for _, b := range list {
		out = append(out, len(b))
	}
	return out
}

// room is how many sectors records have, by the chapter's words.
func room(list [][]byte) int {
	n := 0
	for _, b := range list {
		n += (len(b) + 16 + 62) / 63
	}
	return n
}

func half(d *disk.Disk) int { return (d.Len() - 2) / 2 }

func opened(t *testing.T, d *disk.Disk) *log.Log {
	t.Helper()
	l, e := log.Open(d)
	if e != api.OK || l == nil {
		t.Fatalf("Open tells %d", e)
	}
	return l
}

// told holds an error against the one that there should be.
func told(t *testing.T, what string, got, want api.Errno) {
	t.Helper()
	if got != want {
		t.Errorf("%s tells %d, not %d", what, got, want)
	}
}

// holds holds what a log tells against what it should.
func holds(t *testing.T, d *disk.Disk, l *log.Log, want [][]byte) {
	t.Helper()
	if got := l.List(); !equal(got, want) {
		t.Errorf("there are records of %v bytes, not of %v, or others", lens(got), lens(want))
	}
	if got, want := l.Left(), half(d)-room(want); got != want {
		t.Errorf("%d sectors are left, not %d", got, want)
	}
}

// same opens a log, twice, and holds what it tells against what it should.
func same(t *testing.T, d *disk.Disk, want [][]byte) {
	t.Helper()
	for range 2 {
		holds(t, d, opened(t, d), want)
	}
}

// made is a disk with a log of these records.
func made(t *testing.T, n int, list [][]byte) (*disk.Disk, *log.Log) {
	t.Helper()
	d := disk.New(n)
	l := opened(t, d)
	for _, b := range list {
		told(t, "Append", l.Append(b), api.OK)
	}
	return d, l
}

// image is all that lies on a disk; laid is a disk on which that lies.
func image(d *disk.Disk) []disk.Sector {
	var out []disk.Sector
	for at := range d.Len() {
		s, _ := d.Read(at)
		out = append(out, s)
	}
	return out
}

func laid(sectors []disk.Sector) *disk.Disk {
	d := disk.New(len(sectors))
	for at, s := range sectors {
		d.Write(at, s)
	}
	d.Flush()
	return d
}

func TestRoom(t *testing.T) {
	for n, want := range map[int]int{
		math.MinInt: 1, -63: 1, -1: 1, 0: 1, 1: 1, 46: 1, 47: 1, 48: 2, 109: 2, 110: 2, 111: 3, 173: 3, 174: 4,
		4095: 66, 4096: 66, 4097: 66, 4142: 66, 4143: 67,
	} {
		if got := log.Room(n); got != want {
			t.Errorf("a record of %d bytes has %d sectors, not %d", n, got, want)
		}
	}
	for _, n := range []int{1 << 20, 1<<31 - 1, 1 << 40, math.MaxInt - 100, math.MaxInt - 1, math.MaxInt} {
		sum := new(big.Int).Add(big.NewInt(int64(n)), big.NewInt(16+62))
		if got, want := log.Room(n), sum.Div(sum, big.NewInt(63)); !want.IsInt64() || int64(got) != want.Int64() {
			t.Errorf("a record of %d bytes has %d sectors, not %v", n, got, want)
		}
	}
}

func TestOpenNeedsSixSectors(t *testing.T) {
	for n := 1; n < 6; n++ {
		d := disk.New(n)
		for range 2 {
			if l, e := log.Open(d); l != nil || e != api.ErrArg {
				t.Errorf("of %d sectors: a log %v, error %d", n, l != nil, e)
			}
			d.Crash(all)
		}
		if d.Steps() != 0 {
			t.Errorf("%d steps on a disk that is too small", d.Steps())
		}
	}
}

func TestOpenNeedsPower(t *testing.T) {
	d, _ := made(t, 20, list(1, 5))
	for _, d := range []*disk.Disk{d, disk.New(20)} {
		d.Crash(none)
		steps := d.Steps()
		if l, e := log.Open(d); l != nil || e != api.ErrDown || d.Steps() != steps {
			t.Errorf("without power: a log %v, error %d", l != nil, e)
		}
		d.On()
		opened(t, d)
	}
}

func TestEachHalfHasRoomButForTwo(t *testing.T) {
	for _, n := range []int{6, 7, 8, 9, 20, 21, 50, 51, 777, api.MaxSector - 1, api.MaxSector} {
		d := disk.New(n)
		l := opened(t, d)
		holds(t, d, l, nil)
		var want [][]byte
		for i := range (n - 2) / 2 {
			want = append(want, filled(i%48, i))
			told(t, "Append", l.Append(want[i]), api.OK)
		}
		holds(t, d, l, want)
		told(t, "Append to a full log", l.Append(nil), api.ErrFull)
		same(t, d, want)
		for range 3 {
			slices.Reverse(want)
			told(t, "Rewrite of a full log", l.Rewrite(want...), api.OK)
			holds(t, d, l, want)
			same(t, d, want)
		}
		told(t, "Rewrite of more", l.Rewrite(append(want, nil)...), api.ErrFull)
		same(t, d, want)
	}
}

func TestExampleOneIsKept(t *testing.T) {
	d := disk.New(20)
	l := opened(t, d)
	if l.Left() != 9 {
		t.Errorf("of 20 sectors each half has %d", l.Left())
	}
	told(t, "Append", l.Append([]byte("one")), api.OK)
	d.Crash(none)
	d.On()
	same(t, d, [][]byte{[]byte("one")})
}

func TestRecordsOfEachLength(t *testing.T) {
	var want [][]byte
	d := disk.New(2 + 2*1400)
	l := opened(t, d)
	for _, n := range []int{0, 1, 46, 47, 48, 62, 63, 64, 109, 110, 111, 126, 127, 4095, 4096} {
		for i, b := range [][]byte{filled(n, n), make([]byte, n), bytes.Repeat([]byte{255}, n)} {
			left := l.Left()
			told(t, "Append", l.Append(b), api.OK)
			want = append(want, b)
			if left-l.Left() != log.Room(n) {
				t.Errorf("record %d of %d bytes has %d sectors, not %d", i, n, left-l.Left(), log.Room(n))
			}
			d.Crash(none)
			d.On()
			same(t, d, want)
		}
	}
	holds(t, d, l, want)
	told(t, "Rewrite", l.Rewrite(want...), api.OK)
	same(t, d, want)
}

func TestLongAndFullTurnNothing(t *testing.T) {
	long, big, some := filled(4097, 1), filled(4096, 2), list(3, 10, 60)
	d, l := made(t, 2+2*70, some)
	kept, steps := image(d), d.Steps()
	d.Plan(1, none)
	for what, c := range map[string]struct{ got, want api.Errno }{
		"Append of a long one":                {l.Append(long), api.ErrLong},
		"Append of a far longer one":          {l.Append(make([]byte, 1<<20)), api.ErrLong},
		"Rewrite of a long one":               {l.Rewrite(long), api.ErrLong},
		"Rewrite of a long one behind others": {l.Rewrite(some[0], some[1], long), api.ErrLong},
		"Rewrite of too many, and a long one": {l.Rewrite(big, big, long), api.ErrLong},
		"Rewrite of a long one, and too many": {l.Rewrite(long, big, big), api.ErrLong},
		"Rewrite of too many":                 {l.Rewrite(big, big), api.ErrFull},
		"Rewrite of one sector too many":      {l.Rewrite(big, some[0], some[0], some[0], some[0], some[0]), api.ErrFull},
	} {
		told(t, what, c.got, c.want)
		if !slices.Equal(image(d), kept) || d.Steps() != steps {
			t.Errorf("%s turns the disk", what)
		}
		holds(t, d, l, some)
	}
	d.Plan(0, none)
	told(t, "Append of what just has room", l.Append(big), api.OK)
	told(t, "Append of one sector more than is left", l.Append(filled(48, 4)), api.ErrFull)
	told(t, "Append of a long one to a full log", l.Append(long), api.ErrLong)
	told(t, "Append of the one that is left", l.Append(filled(47, 4)), api.OK)
	told(t, "Append of nothing to a full log", l.Append(nil), api.ErrFull)
	same(t, d, [][]byte{some[0], some[1], big, filled(47, 4)})
	told(t, "Rewrite of what just has room", l.Rewrite(big, nil, nil, nil, nil), api.OK)
	same(t, d, [][]byte{big, nil, nil, nil, nil})
	told(t, "Append behind that", l.Append(nil), api.ErrFull)
}

func TestRewriteIsInThePlaceOfAll(t *testing.T) {
	d, l := made(t, 40, list(1, 10, 100, 20, 30))
	for i, want := range [][][]byte{list(2, 5), nil, list(3, 100, 0, 0, 7), list(4), {nil, nil}, list(5, 900), list(6, 1, 2, 3)} {
		told(t, "Rewrite", l.Rewrite(want...), api.OK)
		holds(t, d, l, want)
		same(t, d, want)
		if i%2 == 1 {
			l = opened(t, d)
		}
		for j := range 3 {
			b := filled(3, j)
			told(t, "Append behind Rewrite", l.Append(b), api.OK)
			want = append(slices.Clone(want), b)
			same(t, d, want)
		}
	}
}

func TestWhereALogLiesNothingIsWritten(t *testing.T) {
	for _, some := range [][][]byte{nil, list(1, 5), list(2, 0, 0, 300)} {
		d, l := made(t, 30, some)
		for range 2 {
			kept, steps := image(d), d.Steps()
			d.Plan(1, none)
			same(t, d, some)
			if d.Steps() != steps || d.Down() || !slices.Equal(image(d), kept) {
				t.Errorf("Open turns a disk on which records of %v bytes lie", lens(some))
			}
			d.Plan(0, none)
			told(t, "Rewrite", l.Rewrite(some...), api.OK)
		}
	}
}

func TestOpenAsThePowerGoes(t *testing.T) {
	for n := 6; n < 9; n++ {
		for at := 1; open(t, disk.New(n), at, 2); at++ {
		}
	}
}

// open opens a log on a disk of noughts as the power goes at a step, with each writes kept, and again at each step, so many times; it tells whether there was such a step.
func open(t *testing.T, d *disk.Disk, at, times int) bool {
	t.Helper()
	ahead := image(d)
	down := false
	for keeps := range uint64(8) {
		d := laid(ahead)
		d.Plan(at, keeps)
		l, e := log.Open(d)
		if !d.Down() {
			told(t, "Open", e, api.OK)
			holds(t, d, l, nil)
			return down
		}
		down = true
		if l != nil || e != api.ErrDown {
			t.Errorf("as the power goes: a log %v, error %d", l != nil, e)
		}
		d.On()
		if times > 0 {
			for again := 1; open(t, d, again, times-1); again++ {
			}
		}
		same(t, d, nil)
		told(t, "Append", opened(t, d).Append([]byte("x")), api.OK)
		same(t, d, [][]byte{[]byte("x")})
	}
	return down
}

// deed is a call that keeps records, and the records that there are behind it.
type deed struct {
	name   string
	do     func(l *log.Log) api.Errno
	behind func(ahead [][]byte) [][]byte
}

func appends(b []byte) deed {
	return deed{"Append", func(l *log.Log) api.Errno { return l.Append(b) },
		func(ahead [][]byte) [][]byte { return append(slices.Clone(ahead), b) }}
}

func rewrites(list ...[]byte) deed {
	return deed{"Rewrite", func(l *log.Log) api.Errno { return l.Rewrite(list...) },
		func([][]byte) [][]byte { return list }}
}

// lose does a deed as the power goes at a step: it tells what lies on the disk behind that, whether it went, and which records there are then.
func lose(t *testing.T, sectors []disk.Sector, ahead [][]byte, x deed, at int, keeps uint64) ([]disk.Sector, bool, [][]byte) {
	t.Helper()
	d := laid(sectors)
	l := opened(t, d)
	d.Plan(at, keeps)
	e := x.do(l)
	went := d.Down()
	d.Plan(0, none)
	want := api.OK
	if went {
		want = api.ErrDown
	}
	told(t, x.name, e, want)
	if !went {
		holds(t, d, l, x.behind(ahead))
		same(t, d, x.behind(ahead))
		return image(d), false, x.behind(ahead)
	}
	holds(t, d, l, ahead)
	d.On()
	dead(t, d, l, ahead)
	now := opened(t, d).List()
	if !equal(now, ahead) && !equal(now, x.behind(ahead)) {
		t.Errorf("%s, step %d, keeps %b: records of %v bytes, neither %v nor %v", x.name, at, keeps, lens(now), lens(ahead), lens(x.behind(ahead)))
	}
	same(t, d, now)
	return image(d), true, now
}

// dead holds a log to be one under which the power went.
func dead(t *testing.T, d *disk.Disk, l *log.Log, list [][]byte) {
	t.Helper()
	kept, steps := image(d), d.Steps()
	told(t, "Append to a dead log", l.Append(nil), api.ErrDown)
	told(t, "Append of a long one to a dead log", l.Append(make([]byte, 5000)), api.ErrDown)
	told(t, "Rewrite of a dead log", l.Rewrite(), api.ErrDown)
	told(t, "Rewrite of a dead log by a long one", l.Rewrite(make([]byte, 5000)), api.ErrDown)
	told(t, "Rewrite of a dead log by too much", l.Rewrite(make([][]byte, d.Len())...), api.ErrDown)
	if d.Steps() != steps || !slices.Equal(image(d), kept) {
		t.Error("a dead log writes")
	}
	holds(t, d, l, list)
}

// begins are disks, some of which have been written anew, or have remains of what was lost, with the records that there are.
func begins(t *testing.T) map[string]func() ([]disk.Sector, [][]byte) {
	of := func(n int, rewrite bool, ahead, now [][]byte) func() ([]disk.Sector, [][]byte) {
		return func() ([]disk.Sector, [][]byte) {
			d, l := made(t, n, ahead)
			if rewrite {
				told(t, "Rewrite", l.Rewrite(now...), api.OK)
				return image(d), now
			}
			return image(d), ahead
		}
	}
	return map[string]func() ([]disk.Sector, [][]byte){
		"a new one":                        of(20, false, nil, nil),
		"some records":                     of(20, false, list(1, 5, 60, 0), nil),
		"one that was written anew":        of(20, true, list(1, 5, 60, 0), list(2, 7)),
		"one that was written anew by all": of(20, true, list(1, 1, 1, 1, 1, 1, 1, 1, 1, 1), list(2, 1, 1, 1)),
		"one of which nothing is left":     of(20, true, list(1, 100, 100), nil),
		"remains of a longer record": func() ([]disk.Sector, [][]byte) {
			sectors, ahead := of(20, false, list(3, 5), nil)()
			sectors, _, now := lose(t, sectors, ahead, appends(filled(400, 4)), 5, all)
			return sectors, now
		},
		"remains of being written anew": func() ([]disk.Sector, [][]byte) {
			sectors, ahead := of(20, false, list(3, 5, 5), nil)()
			sectors, _, now := lose(t, sectors, ahead, rewrites(list(4, 1, 1, 1, 1, 1, 1)...), 7, all)
			return sectors, now
		},
	}
}

func TestPowerGoesAtEachStepWithEachWritesKept(t *testing.T) {
	deeds := map[string]deed{
		"nothing":              appends(nil),
		"a sector":             appends(filled(40, 10)),
		"a few sectors":        appends(filled(200, 11)),
		"anew":                 rewrites(list(12, 3, 70)...),
		"anew, many":           rewrites(list(13, 1, 1, 1, 1, 1)...),
		"anew, nothing":        rewrites(),
		"anew, all of it":      rewrites(list(14, 547)...),
		"anew, an empty one":   rewrites(nil),
		"anew, by what was so": rewrites(list(1, 5, 60, 0)...),
	}
	for begin, first := range begins(t) {
		for name, x := range deeds {
			sectors, ahead := first()
			went := true
			for at := 1; went; at++ {
				went = false
				for keeps := range uint64(64) {
					// The high ones of the writes are all lost, or all kept.
					keeps = keeps>>1 ^ -(keeps & 1)
					now, w, list := lose(t, sectors, ahead, x, at, keeps)
					went = went || w
					next(t, now, list)
				}
				if t.Failed() {
					t.Fatalf("%s, %s, step %d", begin, name, at)
				}
			}
		}
	}
}

// next goes on with what lies on a disk: nothing that was lost may come back.
func next(t *testing.T, sectors []disk.Sector, list [][]byte) {
	t.Helper()
	d := laid(sectors)
	l := opened(t, d)
	for i := range 2 {
		b := filled(10+50*i, 99+i)
		if room(list)+log.Room(len(b)) <= half(d) {
			told(t, "Append behind a loss", l.Append(b), api.OK)
			list = append(slices.Clone(list), b)
		}
		same(t, d, list)
	}
	list = [][]byte{filled(2, 98)}
	told(t, "Rewrite behind a loss", l.Rewrite(list...), api.OK)
	for i := range 3 {
		same(t, d, list)
		list = append(list, filled(1, i))
		told(t, "Append behind a loss", l.Append(filled(1, i)), api.OK)
	}
	same(t, d, list)
}

func TestPowerGoesAgainAndAgain(t *testing.T) {
	many, one := rewrites(list(21, 1, 1, 1)...), rewrites(list(22, 2)...)
	long, short := appends(filled(70, 23)), appends(filled(3, 24))
	d, _ := made(t, 16, list(20, 4, 4))
	for _, deeds := range [][]deed{{many, one, short}, {many, long, short}, {long, short, short}, {long, many, one}, {one, many, many}} {
		again(t, image(d), list(20, 4, 4), deeds)
	}
}

// again does deeds, the power of each of which goes at each step, with some or all writes kept.
func again(t *testing.T, sectors []disk.Sector, ahead [][]byte, deeds []deed) {
	t.Helper()
	if len(deeds) == 0 || t.Failed() {
		return
	}
	went := true
	for at := 1; went; at++ {
		for _, keeps := range []uint64{none, 1, 2, all} {
			now, w, list := lose(t, sectors, ahead, deeds[0], at, keeps)
			again(t, now, list, deeds[1:])
			went = w
		}
	}
}

func TestLongOnesAsThePowerGoes(t *testing.T) {
	r := rand.New(rand.NewSource(7))
	some := list(30, 4096, 10)
	for _, x := range []deed{appends(filled(4096, 31)), rewrites(list(32, 4096, 4096)...)} {
		d, _ := made(t, 2+2*140, some)
		sectors := image(d)
		went := true
		for at := 1; went; at++ {
			for i := range 6 {
				keeps := r.Uint64()
				if i < 2 {
					keeps = all * uint64(i)
				}
				_, went, _ = lose(t, sectors, some, x, at, keeps)
			}
		}
	}
}

func TestPowerThatIsGoneIsSeen(t *testing.T) {
	some := list(40, 5)
	for _, x := range []deed{appends([]byte("x")), rewrites([]byte("x")), appends(make([]byte, 5000)), rewrites(make([][]byte, 100)...)} {
		d, l := made(t, 20, some)
		steps := d.Steps()
		d.Crash(none)
		told(t, x.name+" without power", x.do(l), api.ErrDown)
		holds(t, d, l, some)
		if d.Steps() != steps {
			t.Errorf("%s writes without power", x.name)
		}
		d.On()
		dead(t, d, l, some)
		told(t, "Append to the one that is opened next", opened(t, d).Append([]byte("y")), api.OK)
		dead(t, d, l, some)
		same(t, d, append(some, []byte("y")))
	}
}

func TestRecordsMayLookLikeALog(t *testing.T) {
	for _, rewrite := range []bool{false, true} {
		d, l := made(t, 30, list(50, 5, 100, 0))
		if rewrite {
			told(t, "Rewrite", l.Rewrite(list(51, 7, 70)...), api.OK)
		}
		var parts [][]byte
		for _, s := range image(d) {
			parts = append(parts, s[:])
		}
		whole := bytes.Join(parts, nil)
		d = disk.New(200)
		l = opened(t, d)
		var want [][]byte
		for cut := range 70 {
			b := whole[cut*7 : cut*7+128]
			want = [][]byte{b, b, whole, b}
			told(t, "Rewrite", l.Rewrite(b, b, whole), api.OK)
			d.Plan(3+cut%5, all)
			l.Append(whole)
			d.Plan(0, none)
			d.On()
			l = opened(t, d)
			if n := len(l.List()); n == 4 {
				want = [][]byte{b, b, whole, whole, b}
			}
			told(t, "Append", l.Append(b), api.OK)
			same(t, d, want)
		}
	}
}

func TestWhatIsHandedInMayBeTurned(t *testing.T) {
	d, l := made(t, 40, nil)
	a, b := []byte("aaa"), []byte("bbb")
	told(t, "Append", l.Append(a), api.OK)
	if string(a) != "aaa" {
		t.Error("Append turns what is handed in")
	}
	clear(a)
	holds(t, d, l, [][]byte{[]byte("aaa")})
	some := [][]byte{b, []byte("cc"), b}
	told(t, "Rewrite", l.Rewrite(some...), api.OK)
	if !equal(some, [][]byte{[]byte("bbb"), []byte("cc"), []byte("bbb")}) {
		t.Error("Rewrite turns what is handed in")
	}
	clear(b)
	some[1] = nil
	want := [][]byte{[]byte("bbb"), []byte("cc"), []byte("bbb")}
	holds(t, d, l, want)
	same(t, d, want)
}

func TestWhatIsToldMayBeTurned(t *testing.T) {
	want := [][]byte{[]byte("aaa"), []byte("bbb"), nil}
	d, l := made(t, 40, want)
	for _, l := range []*log.Log{l, opened(t, d)} {
		got, other := l.List(), l.List()
		clear(got[0])
		_ = append(got[0], 9, 9, 9, 9)
		_ = append(got[:1], nil)
		got[2] = []byte("ccc")
		if !equal(other, want) {
			t.Error("two lists share memory")
		}
		holds(t, d, l, want)
		told(t, "Rewrite by what was told", l.Rewrite(other...), api.OK)
		clear(other[1])
		holds(t, d, l, want)
		same(t, d, want)
	}
}

func TestTwoDisksAreApart(t *testing.T) {
	a, x := made(t, 20, list(60, 1, 2))
	b, y := made(t, 20, list(61, 3))
	told(t, "Append", x.Append(nil), api.OK)
	told(t, "Rewrite", y.Rewrite(), api.OK)
	a.Crash(none)
	told(t, "Append to one without power", x.Append(nil), api.ErrDown)
	told(t, "Append to the other one", y.Append([]byte("z")), api.OK)
	a.On()
	same(t, a, append(list(60, 1, 2), nil))
	same(t, b, [][]byte{[]byte("z")})
}

func TestSpoiltDisksAreOpenedOrRefused(t *testing.T) {
	some := list(70, 5, 100, 0, 47)
	d, l := made(t, 20, list(71, 1, 1, 1, 1))
	told(t, "Rewrite", l.Rewrite(some...), api.OK)
	sectors := image(d)
	for at := range sectors {
		for i := range api.Sector {
			for _, turn := range []byte{1, 128, 255} {
				now := slices.Clone(sectors)
				now[at][i] ^= turn
				d := laid(now)
				for range 2 {
					l, e := log.Open(d)
					if (l == nil) != (e != api.OK) {
						t.Errorf("sector %d, byte %d: a log %v, error %d", at, i, l != nil, e)
					}
					if e == api.OK {
						holds(t, d, l, some)
					}
				}
				if !slices.Equal(image(d), now) {
					t.Errorf("sector %d, byte %d: what isn't noughts is written over", at, i)
				}
			}
		}
	}
}

func TestAnyBytesAreOpenedOrRefused(t *testing.T) {
	r := rand.New(rand.NewSource(9))
	d, l := made(t, 20, list(80, 5, 100, 0, 47))
	good := image(d)
	pool := slices.Clone(good) // what lay there at some time
	for i := range 5 {
		told(t, "Rewrite", l.Rewrite(list(81+i, 5+60*i)...), api.OK)
		pool = append(pool, image(d)...)
	}
	for range 5000 {
		now := slices.Clone(good[:6+r.Intn(len(good)-5)])
		for range r.Intn(8) {
			at, from := r.Intn(len(now))*r.Intn(2), r.Intn(len(pool))
			if r.Intn(2) == 0 {
				// As the same sector was at another time.
				from += at - from%20
			}
			now[at] = pool[from]
			if r.Intn(4) == 0 {
				r.Read(now[at][r.Intn(api.Sector):])
			}
		}
		d := laid(now)
		l, e := log.Open(d)
		again, f := log.Open(d)
		if e != f || (l == nil) != (e != api.OK) {
			t.Fatalf("a log %v, error %d; opened again, error %d", l != nil, e, f)
		}
		if e == api.OK && (!equal(l.List(), again.List()) || l.Left() != again.Left()) {
			t.Fatal("what is opened again isn't the same")
		}
		if e == api.OK && (l.Left() < 0 || l.Left()+room(l.List()) != half(d)) {
			t.Fatalf("records of %v bytes, and %d sectors are left, of %d", lens(l.List()), l.Left(), half(d))
		}
	}
}

func TestAnyOrderOfCalls(t *testing.T) {
	sizes := []int{0, 1, 46, 47, 48, 100, 111, 300, 1000, 4096, 4097}
	for seed := range int64(2000) {
		r := rand.New(rand.NewSource(seed))
		d := disk.New(6 + r.Intn(60)*(1+r.Intn(3)))
		m := &model{d: d, r: r}
		m.reopen(t)
		for i := range 120 {
			switch k := r.Intn(20); {
			case k < 9:
				b := filled(sizes[r.Intn(len(sizes))], int(seed)*1000+i)
				m.does(t, appends(b), b)
			case k < 14:
				some := make([][]byte, r.Intn(5))
				for j := range some {
					some[j] = filled(sizes[r.Intn(len(sizes))], int(seed)*1000+500+i*5+j)
				}
				m.does(t, rewrites(some...), some...)
			case k < 17:
				d.Plan(r.Intn(20), r.Uint64())
			case k < 18:
				d.Crash(r.Uint64())
				m.gone = true
			default:
				d.On()
				m.reopen(t)
			}
			if t.Failed() {
				t.Fatalf("seed %d, call %d", seed, i)
			}
		}
	}
}

// model is what a log is known to hold: as it was told, and, of a call that was under way as the power went, what it would have kept.
type model struct {
	d     *disk.Disk
	r     *rand.Rand
	l     *log.Log
	list  [][]byte
	maybe *[][]byte
	gone  bool
}

// reopen opens the log, as often as the power goes.
func (m *model) reopen(t *testing.T) {
	t.Helper()
	for {
		l, e := log.Open(m.d)
		if e == api.OK {
			m.l, m.gone = l, false
			break
		}
		told(t, "Open", e, api.ErrDown)
		m.d.On()
	}
	if now := m.l.List(); m.maybe != nil && equal(now, *m.maybe) {
		m.list = now
	}
	m.maybe = nil
	holds(t, m.d, m.l, m.list)
	same(t, m.d, m.list)
}

// does does a deed that keeps some records, and holds what it tells against what it should.
func (m *model) does(t *testing.T, x deed, some ...[]byte) {
	t.Helper()
	steps := m.d.Steps()
	e := x.do(m.l)
	behind := x.behind(m.list)
	long := slices.ContainsFunc(some, func(b []byte) bool { return len(b) > api.MaxRec })
	switch {
	case m.gone:
		told(t, x.name+" without power", e, api.ErrDown)
	case long:
		told(t, x.name+" of a long one", e, api.ErrLong)
	case room(behind) > half(m.d):
		told(t, x.name+" of too much", e, api.ErrFull)
	case m.d.Down():
		told(t, x.name+" as the power goes", e, api.ErrDown)
		m.gone, m.maybe = true, &behind
		steps = m.d.Steps()
	default:
		told(t, x.name, e, api.OK)
		m.list = behind
		steps = m.d.Steps()
	}
	if m.d.Steps() != steps {
		t.Errorf("%s that is refused writes", x.name)
	}
	holds(t, m.d, m.l, m.list)
}
