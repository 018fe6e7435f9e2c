package vol_test

import (
	"bytes"
	"fmt"
	"maps"
	"math/rand"
	"slices"
	"strings"
	"testing"

	"farrier/api"
	"farrier/disk"
	"farrier/tree"
	"farrier/vol"
)

// none and all are the writes that a lost power keeps.
const (
	none = uint64(0)
	all  = ^uint64(0)
)

// kept is which writes may be kept as the power goes at a step: each choice of few ones, else some of them.
func kept(step int) []uint64 {
	var out []uint64
	if step <= 6 {
		for bits := range uint64(1) << step {
			out = append(out, bits)
		}
		return out
	}
	r := rand.New(rand.NewSource(int64(step)))
	return []uint64{none, all, 1, all - 1, 1 << (step % 64), ^(uint64(1) << (step % 64)), 0x5555555555555555, r.Uint64()}
}

// deed is what is done at once in a volume that was made before.
type deed struct {
	sectors, quota int
	before         []tree.Op // each of them a Do
	held           string    // a file that is held, unless it is empty
	ops            []tree.Op
}

// deeds is some of all kinds, by what is kept: a record of one sector, or of some; the whole tree, as there is no room, or as the record is too long.
func deeds() map[string]deed {
	some := []tree.Op{mkdir("/d"), create("/d/f", "one"), create("/g", "two")}
	return map[string]deed{
		"the first record":  {60, 100, nil, "", []tree.Op{create("/f", "one")}},
		"one operation":     {60, 100, some, "", []tree.Op{rename("/g", "/d/f")}},
		"several at once":   {60, 200, some, "/d/f", []tree.Op{unlink("/d/f"), rename("/g", "/d/f"), mkdir("/e"), create("/e/x", strings.Repeat("x", 90)), link("/e/x", "/y")}},
		"a full half":       {12, 100, append(some, writeTo("/g", "2"), writeTo("/g", "3")), "/g", []tree.Op{unlink("/g"), writeTo("/d/f", "four")}},
		"a tree kept twice": {12, 100, append(some, writeTo("/g", "2"), writeTo("/g", "3"), writeTo("/g", "4"), writeTo("/g", "5"), writeTo("/g", "6"), writeTo("/g", "7")), "/d/f", []tree.Op{rename("/g", "/d/f")}},
		"a long record":     {400, 9000, some, "/g", []tree.Op{unlink("/g"), create("/x", strings.Repeat("x", 3000)), create("/y", strings.Repeat("y", 2000))}},
	}
}

// made is a disk on which the deed is to be done, and the model behind that too.
func (c deed) made(t *testing.T) (d *disk.Disk, v *vol.Vol, m, after *model) {
	t.Helper()
	d, v, m = both(t, c.sectors, c.quota, c.before...)
	if c.held != "" {
		v.Hold(c.held)
		m.hold(c.held)
	}
	after = m.clone()
	told(t, "the model's Do", after.do(c.ops...), api.OK)
	return d, v, m, after
}

// outlives holds a volume under which the power went against the model, which is as it was.
func outlives(t *testing.T, what string, d *disk.Disk, v *vol.Vol, m *model) {
	t.Helper()
	steps := d.Steps()
	for range 2 {
		if !v.Dead() {
			t.Errorf("%s: it isn't dead", what)
		}
		told(t, what+": Do", v.Do(), api.ErrDown)
		told(t, what+": Do of what is wrong", v.Do(mkdir("no path")), api.ErrDown)
		told(t, what+": Do of what has no room", v.Do(create("/big", strings.Repeat("x", 3400))), api.ErrDown)
		m.holds(t, what, v)
		d.On()
	}
	if d.Steps() != steps {
		t.Errorf("%s: something is written", what)
	}
	for i, n := range m.clone().held {
		for range n {
			told(t, what+": Let", v.Let(i), api.OK)
			m.let(i)
		}
		told(t, what+": Let", v.Let(i), api.ErrNone)
	}
	m.holds(t, what+", let go", v)
}

// stands tells whether what lies on a disk, opened twice, and as the power goes meanwhile, is the model's tree.
func (m *model) stands(t *testing.T, what string, d *disk.Disk, keeps uint64) bool {
	t.Helper()
	d.Plan(1, keeps)
	v := opened(t, d, m.quota)
	d.Crash(keeps)
	if w, e := vol.Open(d, m.quota); w != nil || e != api.ErrDown {
		t.Errorf("%s: without power Open tells %v, %d", what, w, e)
	}
	d.On()
	sameTree(t, what+": opened again", opened(t, d, m.quota).Tree, v.Tree)
	if len(v.Loose()) != 0 {
		t.Errorf("%s: %v are loose", what, v.Loose())
	}
	return shape(v, "/") == shape(m.tree, "/")
}

func TestPowerGoesAtEachStepOfADo(t *testing.T) {
	for name, c := range deeds() {
		before, behind := 0, 0
		for step, down := 1, true; down; step++ {
			for _, keeps := range kept(step) {
				what := fmt.Sprintf("%s: step %d, keeps %x", name, step, keeps)
				d, v, m, after := c.made(t)
				d.Plan(step, keeps)
				e := v.Do(c.ops...)
				if down = e != api.OK; !down {
					after.holds(t, what, v)
					d.Crash(none)
					d.On()
					after.lies(t, what, d)
					break
				}
				told(t, what, e, api.ErrDown)
				outlives(t, what, d, v, m)
				m.reopen()
				after.reopen()
				switch {
				case m.stands(t, what, d, keeps):
					before++
				case after.stands(t, what, d, keeps):
					behind++
					m = after
				default:
					t.Errorf("%s: it is neither as it was nor as it should be", what)
					continue
				}
				goesOn(t, what, d, m)
			}
			if t.Failed() {
				t.FailNow()
			}
		}
		if before == 0 || behind == 0 {
			t.Errorf("%s: %d times it is as it was, %d times as it should be", name, before, behind)
		}
	}
}

// goesOn does something more in what is opened, which is kept.
func goesOn(t *testing.T, what string, d *disk.Disk, m *model) {
	t.Helper()
	v := opened(t, d, m.quota)
	m.holds(t, what+": opened", v)
	do(t, v, m, api.OK, create("/z", "z"))
	d.Crash(none)
	d.On()
	m.lies(t, what+": gone on", d)
}

func TestPowerGoesWhileItIsOpened(t *testing.T) {
	for first := 1; first <= 5; first++ {
		for _, a := range kept(first) {
			for again := 1; again <= 5; again++ {
				for _, b := range kept(again) {
					d := disk.New(20)
					opens(t, d, first, a)
					opens(t, d, again, b)
					opened(t, d, 50)
					m := newModel(20, 50)
					m.lies(t, "opened at last", d)
					goesOn(t, "opened at last", d, m)
				}
			}
		}
	}
}

// opens opens a volume, while the power goes at some step, if that is reached.
func opens(t *testing.T, d *disk.Disk, step int, keeps uint64) {
	t.Helper()
	d.Plan(step, keeps)
	v, e := vol.Open(d, 50)
	if d.Down() != (e == api.ErrDown) || (e == api.OK) != (v != nil) || e != api.OK && e != api.ErrDown {
		t.Errorf("Open tells %v, %d; no power: %v", v, e, d.Down())
	}
	d.Crash(keeps)
	d.On()
}

func TestPowerGoesAgainAndAgain(t *testing.T) {
	script := [][]tree.Op{
		{mkdir("/d"), create("/f", "one")}, {link("/f", "/d/g")}, {rename("/f", "/h"), create("/i", "two")}, {rename("/i", "/d/g")},
		{writeTo("/h", "three")}, {create("/x", strings.Repeat("x", 60))}, {unlink("/x"), mkdir("/e")}, {rename("/h", "/e/h")},
		{rmdir("/e"), mkdir("/e")}, {unlink("/e/h")}, {rmdir("/e")}, {create("/j", "four"), unlink("/j"), create("/k", "")}, {writeTo("/d/g", "five")},
	}
	want := map[int]api.Errno{8: api.ErrBusy}
	for _, sectors := range []int{16, 200} {
		for step := 1; step < 40; step++ {
			for _, keeps := range []uint64{none, all, 1, 2, 3, 5, 6, all - 1, uint64(step) * 0x9e3779b97f4a7c15} {
				d, v, m := both(t, sectors, 200)
				d.Plan(step, keeps)
				lost := 0
				for i := 0; i < len(script); {
					after := m.clone()
					told(t, "the model's Do", after.do(script[i]...), want[i])
					e := v.Do(script[i]...)
					if e == want[i] {
						m = after
						i++
						continue
					}
					told(t, "Do", e, api.ErrDown)
					d.On()
					if v = opened(t, d, 200); shape(v, "/") == shape(after.tree, "/") {
						m = after
						i++
					}
					m.reopen()
					m.holds(t, "behind the power going", v)
					// Later each time, so that it comes to its end.
					lost++
					d.Plan(step+lost, keeps)
				}
				d.Crash(none)
				d.On()
				m.lies(t, "at last", d)
				if t.Failed() {
					t.Fatalf("%d sectors, step %d, keeps %x", sectors, step, keeps)
				}
			}
		}
	}
}

func TestDead(t *testing.T) {
	for _, wrong := range []tree.Op{mkdir("/"), unlink("/x"), create("/x", strings.Repeat("x", 3501)), create("/x", strings.Repeat("x", 101)), create("/x", strings.Repeat("x", 100))} {
		d, v, m := both(t, 6, 100)
		if v.Do(wrong) == api.OK || v.Dead() {
			t.Errorf("%d at %q is done, or it is dead by it", wrong.Kind, wrong.Path)
		}
		do(t, v, m, api.OK, mkdir("/d"))
		m.lies(t, "behind what was refused", d)
	}
	d, v, m := both(t, 100, 100, create("/f", "one"))
	d.Plan(2, none)
	if v.Dead() {
		t.Error("it is dead while there is power")
	}
	told(t, "Do", v.Do(mkdir("/d")), api.ErrDown)
	d.On()
	outlives(t, "planned", d, v, m)

	d, v, m = both(t, 100, 100, create("/f", "one"))
	d.Crash(none)
	told(t, "Do", v.Do(mkdir("/d")), api.ErrDown)
	d.On()
	outlives(t, "told by Do", d, v, m)

	d, v, m = both(t, 100, 100, create("/f", "one"))
	d.Crash(none)
	if !v.Dead() {
		t.Error("it isn't dead without power")
	}
	d.On()
	outlives(t, "told by Dead", d, v, m)
}

func TestFilesAreHeldWithoutPower(t *testing.T) {
	d, v, m := both(t, 100, 100, create("/f", "one"))
	v.Hold("/f")
	m.hold("/f")
	do(t, v, m, api.OK, unlink("/f"), create("/g", "two"))
	d.Crash(none)
	i, e := v.Hold("/g")
	m.hold("/g")
	if i != 3 || e != api.OK {
		t.Errorf("Hold tells %d, %d", i, e)
	}
	m.holds(t, "without power", v)
	told(t, "Let", v.Let(2), api.OK)
	m.let(2)
	m.holds(t, "let go without power", v)
}

// chance is operations by chance, some of which are refused.
func chance(r *rand.Rand) []tree.Op {
	paths := []string{"/f", "/g", "/h", "/d", "/d/f", "/d/g", "/e", "/d/e/f", "/", "none", "/f/x"}
	var ops []tree.Op
	for range 1 + r.Intn(4)/2 {
		o := tree.Op{Kind: r.Intn(7), Path: paths[r.Intn(len(paths))], Data: []byte(strings.Repeat("x", r.Intn(60)))}
		if r.Intn(3) > 0 {
			o.Path = paths[r.Intn(6)]
		}
		if o.Kind == tree.Link || o.Kind == tree.Rename || r.Intn(4) == 0 {
			o.To = paths[r.Intn(len(paths))]
		}
		if r.Intn(40) == 0 {
			o.To, o.Data = strings.Repeat("/", r.Intn(90)), []byte(strings.Repeat("y", r.Intn(400)))
		}
		ops = append(ops, o)
	}
	return ops
}

// world is a volume on a disk, beside its model.
type world struct {
	d *disk.Disk
	v *vol.Vol
	m *model
}

// loses does operations, as the power goes at some step, if that is reached, and opens the volume again; then it is as it was, or as it should be.
func (w *world) loses(t *testing.T, r *rand.Rand, ops []tree.Op) {
	t.Helper()
	after := w.m.clone()
	want := after.do(ops...)
	w.d.Plan(1+r.Intn(12), []uint64{none, all, r.Uint64()}[r.Intn(3)])
	switch e := w.v.Do(ops...); {
	case e == want:
		w.m = after
	case e != api.ErrDown || want != api.OK:
		t.Errorf("Do tells %d, not %d", e, want)
	default:
		w.m.holds(t, "behind ErrDown", w.v)
		w.d.On()
		after.reopen()
		// Of operations that turn nothing their record alone tells whether they were kept.
		v := opened(t, w.d, w.m.quota)
		if slices.EqualFunc(v.Dump(), after.tree.Dump(), bytes.Equal) && slices.Equal(lens(t, w.d), after.lens) {
			w.m = after
		}
	}
	w.d.Crash(r.Uint64())
	if !w.v.Dead() {
		t.Error("it isn't dead without power")
	}
	w.d.On()
	w.v = opened(t, w.d, w.m.quota)
	w.m.reopen()
}

// turns does one thing by chance.
func (w *world) turns(t *testing.T, r *rand.Rand) {
	t.Helper()
	paths := []string{"/f", "/g", "/h", "/d", "/d/f", "/d/g", "/none"}
	switch k := r.Intn(20); {
	case k < 10:
		ops := chance(r)
		told(t, "Do", w.v.Do(ops...), w.m.do(ops...))
	case k < 14:
		p := paths[r.Intn(len(paths))]
		i, e := w.v.Hold(p)
		if wi, we := w.m.hold(p); i != wi || e != we {
			t.Errorf("Hold %s tells %d, %d, not %d, %d", p, i, e, wi, we)
		}
	case k < 18:
		i := r.Intn(30)
		if f := slices.Sorted(maps.Keys(w.m.held)); len(f) > 0 && r.Intn(4) > 0 {
			i = f[r.Intn(len(f))]
		}
		told(t, "Let", w.v.Let(i), w.m.let(i))
	case k < 19:
		w.m.lies(t, "meanwhile", w.d)
	default:
		w.loses(t, r, chance(r))
	}
	w.m.holds(t, "by chance", w.v)
	if w.v.Dead() {
		t.Error("it is dead")
	}
}

func TestAnyOrderOfCalls(t *testing.T) {
	for seed := range int64(400) {
		r := rand.New(rand.NewSource(seed))
		var w world
		w.d, w.v, w.m = both(t, []int{10, 12, 14, 20, 30, 60, 200}[r.Intn(7)], 50+r.Intn(400), mkdir("/d"), create("/f", "one"), create("/d/f", "two"))
		for range 150 {
			w.turns(t, r)
			if t.Failed() {
				t.Fatalf("seed %d", seed)
			}
		}
		w.m.lies(t, "at last", w.d)
	}
}
