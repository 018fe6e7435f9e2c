package disk_test

import (
	"math"
	"math/rand"
	"testing"

	"farrier/api"
	"farrier/disk"
)

// none and all are the writes that a lost power keeps.
const (
	none = uint64(0)
	all  = ^uint64(0)
)

// filled is a sector whose bytes hang on a number, the last one too.
func filled(n int) disk.Sector {
	var s disk.Sector
	for i := range s {
		s[i] = byte(n*7 + i)
	}
	return s
}

func write(t *testing.T, d *disk.Disk, at, n int, want api.Errno) {
	t.Helper()
	if e := d.Write(at, filled(n)); e != want {
		t.Errorf("Write %d tells %d, not %d", at, e, want)
	}
}

func flush(t *testing.T, d *disk.Disk, want api.Errno) {
	t.Helper()
	if e := d.Flush(); e != want {
		t.Errorf("Flush tells %d, not %d", e, want)
	}
}

func holds(t *testing.T, d *disk.Disk, at int, want disk.Sector) {
	t.Helper()
	if s, e := d.Read(at); e != api.OK || s != want {
		t.Errorf("sector %d begins with %d, error %d; it should begin with %d", at, s[0], e, want[0])
	}
}

func TestNewTakesOneToMaxSector(t *testing.T) {
	for n, want := range map[int]int{
		math.MinInt: 1, -1: 1, 0: 1, 1: 1, 2: 2, 63: 63, 4095: 4095,
		api.MaxSector: 4096, 4097: 4096, math.MaxInt: 4096,
	} {
		d := disk.New(n)
		if d.Len() != want {
			t.Errorf("New(%d) has %d sectors, not %d", n, d.Len(), want)
		}
		if d.Steps() != 0 || d.Down() {
			t.Errorf("New(%d): %d steps, down %v", n, d.Steps(), d.Down())
		}
		for at := range want {
			holds(t, d, at, disk.Sector{})
		}
		write(t, d, want-1, 1, api.OK)
		write(t, d, want, 1, api.ErrRange)
	}
}

func TestErrRangeTurnsNothing(t *testing.T) {
	d := disk.New(3)
	write(t, d, 2, 5, api.OK)
	d.Plan(2, none)
	for _, at := range []int{math.MinInt, -1, 3, 4, api.MaxSector, math.MaxInt} {
		write(t, d, at, 9, api.ErrRange)
		if s, e := d.Read(at); e != api.ErrRange || s != (disk.Sector{}) {
			t.Errorf("Read %d: %d beside error %d", at, s[0], e)
		}
	}
	if d.Steps() != 1 {
		t.Errorf("%d steps behind writes that were refused", d.Steps())
	}
	holds(t, d, 2, filled(5))
	flush(t, d, api.OK)
	flush(t, d, api.ErrDown)
}

func TestErrDownComesFirst(t *testing.T) {
	d := disk.New(3)
	write(t, d, 1, 4, api.OK)
	flush(t, d, api.OK)
	d.Crash(all)
	for _, at := range []int{math.MinInt, -1, 0, 1, 2, 3, math.MaxInt} {
		write(t, d, at, 9, api.ErrDown)
		if s, e := d.Read(at); e != api.ErrDown || s != (disk.Sector{}) {
			t.Errorf("Read %d without power: %d beside error %d", at, s[0], e)
		}
	}
	flush(t, d, api.ErrDown)
	if d.Steps() != 2 || d.Len() != 3 || !d.Down() {
		t.Errorf("%d steps, %d sectors, down %v", d.Steps(), d.Len(), d.Down())
	}
	d.On()
	holds(t, d, 1, filled(4))
	holds(t, d, 0, disk.Sector{})
}

func TestStepsAreWritesAndFlushesThatWereBegun(t *testing.T) {
	d := disk.New(2)
	steps := func(want int) {
		t.Helper()
		if d.Steps() != want {
			t.Errorf("%d steps, not %d", d.Steps(), want)
		}
	}
	write(t, d, 0, 1, api.OK)
	steps(1)
	flush(t, d, api.OK)
	steps(2)
	d.Read(0)
	d.Crash(all)
	d.On()
	steps(2)
	d.Plan(1, none)
	write(t, d, 0, 2, api.ErrDown)
	steps(3)
	write(t, d, 0, 2, api.ErrDown)
	flush(t, d, api.ErrDown)
	steps(3)
	d.On()
	d.Plan(1, none)
	flush(t, d, api.ErrDown)
	steps(4)
	d.On()
	write(t, d, 2, 2, api.ErrRange)
	steps(4)
}

func TestExampleOneIsKept(t *testing.T) {
	d := disk.New(1)
	write(t, d, 0, 1, api.OK)
	flush(t, d, api.OK)
	write(t, d, 0, 2, api.OK)
	holds(t, d, 0, filled(2))
	d.Crash(none)
	d.On()
	holds(t, d, 0, filled(1))
}

func TestEachWriteIsKeptByItsBit(t *testing.T) {
	for keeps := range uint64(32) {
		d := disk.New(6)
		write(t, d, 5, 9, api.OK)
		flush(t, d, api.OK)
		for at := range 5 {
			write(t, d, at, at+1, api.OK)
		}
		d.Crash(keeps)
		d.On()
		for at := range 5 {
			want := disk.Sector{}
			if keeps>>at&1 == 1 {
				want = filled(at + 1)
			}
			holds(t, d, at, want)
		}
		holds(t, d, 5, filled(9))
	}
}

func TestBitsAreModulo64(t *testing.T) {
	const bits = uint64(1)<<63 | 1<<7 | 1
	d := disk.New(200)
	for at := range 200 {
		write(t, d, at, at, api.OK)
	}
	d.Crash(bits)
	d.On()
	for at := range 200 {
		want := disk.Sector{}
		if i := at % 64; i == 0 || i == 7 || i == 63 {
			want = filled(at)
		}
		holds(t, d, at, want)
	}
}

func TestFlushKeepsAll(t *testing.T) {
	d := disk.New(200)
	for at := range 200 {
		write(t, d, at, at, api.OK)
	}
	flush(t, d, api.OK)
	d.Crash(none)
	d.On()
	for at := range 200 {
		holds(t, d, at, filled(at))
	}
}

func TestOfOneSectorTheLastThatIsKeptStays(t *testing.T) {
	for keeps, want := range map[uint64]disk.Sector{
		0: {}, 1: filled(1), 2: filled(2), 3: filled(2), 4: filled(3), 5: filled(3), 6: filled(3), 7: filled(3),
	} {
		d := disk.New(1)
		for n := range 3 {
			write(t, d, 0, n+1, api.OK)
		}
		d.Crash(keeps)
		d.On()
		holds(t, d, 0, want)
	}
}

func TestCountBeginsAnewBehindFlushAndLoss(t *testing.T) {
	d := disk.New(4)
	write(t, d, 0, 1, api.OK)
	write(t, d, 1, 2, api.OK)
	flush(t, d, api.OK)
	write(t, d, 2, 3, api.OK)
	write(t, d, 3, 4, api.OK)
	d.Crash(1)
	d.On()
	holds(t, d, 0, filled(1))
	holds(t, d, 1, filled(2))
	holds(t, d, 2, filled(3))
	holds(t, d, 3, disk.Sector{})
	write(t, d, 3, 5, api.OK)
	write(t, d, 0, 6, api.OK)
	d.Crash(1)
	d.On()
	holds(t, d, 3, filled(5))
	holds(t, d, 0, filled(1))
	d.Crash(all)
	d.On()
	holds(t, d, 0, filled(1))
}

func TestPlanAtEachStep(t *testing.T) {
	for n := 1; n <= 6; n++ {
		d := disk.New(6)
		d.Plan(n, none)
		for i := 1; i <= 8; i++ {
			want := api.OK
			if i >= n {
				want = api.ErrDown
			}
			if i%2 == 0 {
				flush(t, d, want)
			} else {
				write(t, d, 0, i, want)
			}
			if d.Down() != (i >= n) {
				t.Errorf("planned for %d: down %v behind %d", n, d.Down(), i)
			}
		}
		if d.Steps() != n {
			t.Errorf("planned for %d: %d steps", n, d.Steps())
		}
		d.On()
		want := disk.Sector{}
		if flushed := (n - 1) / 2; flushed > 0 {
			want = filled(2*flushed - 1)
		}
		holds(t, d, 0, want)
	}
}

func TestPlannedWriteWasWritten(t *testing.T) {
	for keeps := range uint64(8) {
		d := disk.New(3)
		d.Plan(3, keeps)
		write(t, d, 0, 1, api.OK)
		write(t, d, 1, 2, api.OK)
		write(t, d, 2, 3, api.ErrDown)
		d.On()
		for at := range 3 {
			want := disk.Sector{}
			if keeps>>at&1 == 1 {
				want = filled(at + 1)
			}
			holds(t, d, at, want)
		}
	}
}

func TestPlannedFlushKeepsNothingItself(t *testing.T) {
	for keeps := range uint64(4) {
		d := disk.New(2)
		d.Plan(3, keeps)
		write(t, d, 0, 1, api.OK)
		write(t, d, 1, 2, api.OK)
		flush(t, d, api.ErrDown)
		d.On()
		for at := range 2 {
			want := disk.Sector{}
			if keeps>>at&1 == 1 {
				want = filled(at + 1)
			}
			holds(t, d, at, want)
		}
	}
}

func TestPlanLaidAnewCountsFromThere(t *testing.T) {
	d := disk.New(2)
	d.Plan(2, all)
	write(t, d, 0, 1, api.OK)
	d.Plan(3, none)
	write(t, d, 0, 2, api.OK)
	write(t, d, 1, 3, api.OK)
	flush(t, d, api.ErrDown)
	d.On()
	holds(t, d, 0, disk.Sector{})
	holds(t, d, 1, disk.Sector{})
	d.Plan(math.MaxInt, none)
	d.Plan(1, all)
	write(t, d, 0, 4, api.ErrDown)
	d.On()
	holds(t, d, 0, filled(4))
}

func TestPlanTakenBack(t *testing.T) {
	for _, n := range []int{0, -1, math.MinInt} {
		d := disk.New(1)
		d.Plan(1, none)
		d.Plan(n, none)
		for i := range 5 {
			write(t, d, 0, i, api.OK)
			flush(t, d, api.OK)
		}
		holds(t, d, 0, filled(4))
	}
}

func TestNoPlanOutlastsTheLoss(t *testing.T) {
	d := disk.New(1)
	d.Plan(1, none)
	flush(t, d, api.ErrDown)
	d.On()
	flush(t, d, api.OK)
	d.Plan(1, none)
	d.Crash(none)
	d.On()
	flush(t, d, api.OK)
	d.Crash(none)
	d.Plan(1, none)
	d.Crash(none)
	d.On()
	flush(t, d, api.OK)
}

func TestPlanWithoutPowerHoldsBehindOn(t *testing.T) {
	d := disk.New(1)
	d.Crash(none)
	d.Plan(2, all)
	write(t, d, 0, 1, api.ErrDown)
	flush(t, d, api.ErrDown)
	d.On()
	d.Read(0)
	d.Read(7)
	write(t, d, 7, 1, api.ErrRange)
	write(t, d, 0, 1, api.OK)
	flush(t, d, api.ErrDown)
	d.On()
	holds(t, d, 0, filled(1))
}

func TestOnAndCrashTwiceTurnNothing(t *testing.T) {
	d := disk.New(2)
	write(t, d, 0, 1, api.OK)
	d.On()
	holds(t, d, 0, filled(1))
	d.Crash(none)
	d.Crash(all)
	if !d.Down() {
		t.Error("there is power behind two losses")
	}
	d.On()
	d.On()
	if d.Down() {
		t.Error("there is none behind On")
	}
	holds(t, d, 0, disk.Sector{})
	flush(t, d, api.OK)
	d.Crash(all)
	d.On()
	holds(t, d, 0, disk.Sector{})
}

func TestSectorsAreApart(t *testing.T) {
	d := disk.New(2)
	s := filled(1)
	d.Write(0, s)
	s[0]++
	holds(t, d, 0, filled(1))
	got, _ := d.Read(0)
	got[0]++
	holds(t, d, 0, filled(1))
	holds(t, disk.New(2), 0, disk.Sector{})
}

// model is a disk as all that ever befell it: each answer is found from the whole story.
type model struct {
	n     int
	story []deed
	down  bool
	plan  int
	keeps uint64
	steps int
}

// deed is a write, a flush (at -1), or a loss (at -2).
type deed struct {
	at    int
	s     disk.Sector
	keeps uint64
}

func (m *model) lose(keeps uint64) {
	m.story = append(m.story, deed{at: -2, keeps: keeps})
	m.down, m.plan = true, 0
}

func (m *model) do(x deed) api.Errno {
	switch {
	case m.down:
		return api.ErrDown
	case x.at >= m.n || x.at < -1:
		return api.ErrRange
	}
	m.steps++
	m.plan--
	if m.plan == 0 {
		if x.at >= 0 {
			m.story = append(m.story, x)
		}
		m.lose(m.keeps)
		return api.ErrDown
	}
	m.story = append(m.story, x)
	return api.OK
}

// read goes back through the story to the last write that was neither lost nor of another sector.
func (m *model) read(at int) disk.Sector {
	var is disk.Sector
	begin := 0
	lost := map[int]bool{}
	for i, x := range m.story {
		if x.at >= 0 {
			continue
		}
		for j := begin; j < i; j++ {
			lost[j] = x.at == -2 && x.keeps>>uint((j-begin)%64)&1 == 0
		}
		begin = i + 1
	}
	for i, x := range m.story {
		if x.at == at && !lost[i] {
			is = x.s
		}
	}
	return is
}

func TestAnyOrderOfCalls(t *testing.T) {
	for seed := range int64(300) {
		r := rand.New(rand.NewSource(seed))
		n := 1 + r.Intn(5)
		d, m := disk.New(n), &model{n: n}
		for i := range 150 {
			turn(t, r, d, m, i)
			if d.Down() != m.down || d.Steps() != m.steps || d.Len() != n {
				t.Fatalf("seed %d, call %d: down %v, %d steps", seed, i, d.Down(), d.Steps())
			}
			for at := range n {
				s, e := d.Read(at)
				if m.down && (e != api.ErrDown || s != disk.Sector{}) || !m.down && (e != api.OK || s != m.read(at)) {
					t.Fatalf("seed %d, call %d: sector %d begins with %d, error %d", seed, i, at, s[0], e)
				}
			}
		}
	}
}

// turn makes one call by chance, of a disk and of its model.
func turn(t *testing.T, r *rand.Rand, d *disk.Disk, m *model, i int) {
	keeps := r.Uint64()
	switch k := r.Intn(20); {
	case k < 12:
		at, s := r.Intn(m.n), filled(i+1)
		if r.Intn(10) == 0 {
			at = m.n + r.Intn(3)
		}
		if got, want := d.Write(at, s), m.do(deed{at: at, s: s}); got != want {
			t.Fatalf("call %d: Write %d tells %d, not %d", i, at, got, want)
		}
	case k < 14:
		if got, want := d.Flush(), m.do(deed{at: -1}); got != want {
			t.Fatalf("call %d: Flush tells %d, not %d", i, got, want)
		}
	case k < 16:
		n := r.Intn(12) - 2
		d.Plan(n, keeps)
		m.plan, m.keeps = max(n, 0), keeps
	case k < 17:
		d.Crash(keeps)
		m.lose(keeps)
	default:
		d.On()
		m.down = false
	}
}
