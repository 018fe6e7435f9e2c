package need_test

import (
	"math/rand"
	"slices"
	"strconv"
	"testing"

	"farrier/mgr"
	"farrier/need"
	"farrier/tree"
	"farrier/unit"
	"farrier/vol"
)

// place is a file with which a unit was started: where it was, and which one.
type place struct {
	path string
	file int
}

// places is where all is that stands in a volume, by its path.
func places(v *vol.Vol, dir string) map[string]int {
	at := map[string]int{}
	list, _ := v.List(dir)
	for _, n := range list {
		p := dir + "/" + n
		if dir == "/" {
			p = "/" + n
		}
		at[p], _ = v.Find(p)
		for q, i := range places(v, p) {
			at[q] = i
		}
	}
	return at
}

// some is one of some things.
func some[T any](r *rand.Rand, list []T) T { return list[r.Intn(len(list))] }

var spots = []string{"/a", "/b", "/c", "/d/a", "/d/b", "/e"}

// anyOp is some operation, which may be refused.
func anyOp(r *rand.Rand) tree.Op {
	return tree.Op{Kind: r.Intn(7), Path: some(r, spots), To: some(r, spots), Data: []byte{byte(r.Intn(3))}}
}

// anyCall asks the manager for something that may be refused.
func anyCall(r *rand.Rand, m *mgr.Mgr, n string) {
	switch r.Intn(6) {
	case 0, 1:
		m.Start(n)
	case 2:
		m.Ready(n)
	case 3:
		m.Stop(n)
	case 4:
		m.Fail(n)
	case 5:
		m.Pick(m.Pid(n))
	}
}

// anyUnits are units with some files, which may not be there.
func anyUnits(r *rand.Rand, names []string) []unit.Unit {
	var list []unit.Unit
	for _, n := range names {
		u := unit.Unit{Name: n, Retry: r.Intn(3)}
		for range 1 + r.Intn(3) {
			u.Files = append(u.Files, some(r, spots))
		}
		list = append(list, u)
	}
	return list
}

// Whatever is done: just those are hit of whose files, as they were when what runs was started, one isn't in its place.
func TestRandomOrders(t *testing.T) {
	names := []string{"u", "v", "w", "x"}
	hits, misses := 0, 0
	for seed := range int64(300) {
		r := rand.New(rand.NewSource(seed))
		v := volume(t, "/a", "/b", "/c")
		turn(t, v, mkdir("/d"), create("/d/a"))
		m := over(t, v, anyUnits(r, names)...)
		started, pids := map[string][]place{}, map[string]int{}
		for step := range 60 {
			switch k := r.Intn(20); {
			case k < 9:
				v.Do(anyOp(r))
			case k < 19:
				anyCall(r, m, some(r, names))
			case k == 19 && r.Intn(3) == 0:
				m.Set(of(t, anyUnits(r, names[r.Intn(3):])...))
			}
			at := places(v, "/")
			var want []string
			for _, n := range names {
				if pid := m.Pid(n); pid != pids[n] {
					pids[n], started[n] = pid, nil
					for _, p := range m.Has(n) {
						started[n] = append(started[n], place{p, at[p]})
					}
				}
				moved := func(p place) bool { return at[p.path] != p.file }
				if slices.ContainsFunc(started[n], moved) {
					want = append(want, n)
				}
			}
			hit(t, "seed "+strconv.FormatInt(seed, 10)+", step "+strconv.Itoa(step), v, m, want...)
			hits, misses = hits+len(want), misses+len(names)-len(want)
			for p, i := range at {
				if !v.Dir(p) && need.Stale(v, p, i) || !need.Stale(v, p, i+1) || !need.Stale(v, p+"/x", i) {
					t.Errorf("seed %d, step %d: Stale tells wrong of %s", seed, step, p)
				}
			}
			if t.Failed() {
				return
			}
		}
	}
	if hits < 1000 || misses < 1000 {
		t.Errorf("only %d hits, and %d misses", hits, misses)
	}
}
