package swap_test

import (
	"fmt"
	"hash/crc32"
	"maps"
	"math/rand"
	"slices"
	"strings"
	"testing"

	"farrier/api"
	"farrier/arc"
	"farrier/base"
	"farrier/dep"
	"farrier/swap"
	"farrier/tree"
	"farrier/txn"
)

// paths are some at which files may stand; some stand within others.
var paths = []string{"/a", "/a/b", "/a/b/c", "/a/d", "/b", "/b-", "/b/a", "/c/d/e/f", "/c/d/e/g", "/c/d/h", "/e", "/f"}

// state is what is there: packages, and what stands where.
type state struct {
	pkgs map[string]arc.Pkg
	at   map[string]node
}

// owner is the package that has a file at a path, and that.
func (s state) owner(p string) (string, arc.File, bool) {
	for _, n := range slices.Sorted(maps.Keys(s.pkgs)) {
		for _, f := range s.pkgs[n].Files {
			if f.Path == p {
				return n, f, true
			}
		}
	}
	return "", arc.File{}, false
}

// turned tells whether the file at a path was turned.
func (s state) turned(p string) bool {
	_, f, ok := s.owner(p)
	return ok && f.Config && crc32.ChecksumIEEE(f.Data) != crc32.ChecksumIEEE([]byte(s.at[p].data))
}

// plan tells by the chapter's words what Plan should.
func plan(s, next state, come map[string]arc.Pkg) ([]txn.Move, dep.Fault) {
	var moves []txn.Move
	came := map[string]bool{}
	for _, p := range paths {
		name, f, ok := next.owner(p)
		if _, comes := come[name]; !ok || !comes {
			continue
		}
		old, there := s.at[p]
		_, _, was := s.owner(p)
		wrong := there && (old.dir || !was)
		for q, n := range s.at {
			wrong = wrong || !there && !n.dir && strings.HasPrefix(p, q+"/")
		}
		if wrong {
			return nil, owned(name, p)
		}
		if there && (s.turned(p) || old.data == string(f.Data)) {
			continue
		}
		for i := 1; i < len(p); i++ {
			if q := p[:i]; p[i] == '/' && !s.at[q].dir && !came[q] {
				came[q] = true
				moves = append(moves, dir(q))
			}
		}
		moves = append(moves, put(p))
	}
	for _, p := range paths {
		_, _, was := s.owner(p)
		_, _, is := next.owner(p)
		n, there := s.at[p]
		if was && !is && there && !n.dir && !s.turned(p) {
			moves = append(moves, drop(p))
		}
	}
	return moves, dep.Fault{}
}

// anyPkg is a package with some files, none of which stands within another one.
func anyPkg(r *rand.Rand, name, version string) arc.Pkg {
	p := arc.Pkg{Name: name, Version: version}
	for _, q := range paths {
		within := func(f arc.File) bool { return strings.HasPrefix(q, f.Path+"/") }
		if r.Intn(5) == 0 && !slices.ContainsFunc(p.Files, within) {
			p.Files = append(p.Files, arc.File{Path: q, Config: r.Intn(2) == 0, Data: []byte(some(r, "", "x", "y", "z"))})
		}
	}
	return p
}

func some(r *rand.Rand, list ...string) string { return list[r.Intn(len(list))] }

// shuffle does to a tree what users might, and more: much of it is refused.
func shuffle(r *rand.Rand, x *tree.Tree, times int) {
	for range times {
		p := paths[r.Intn(len(paths))]
		kind := []int{tree.Mkdir, tree.Rmdir, tree.Create, tree.Write, tree.Write, tree.Link, tree.Unlink}[r.Intn(7)]
		x.Do(tree.Op{Kind: kind, Path: p, To: paths[r.Intn(len(paths))], Data: []byte(some(r, "", "x", "y", "mine"))})
	}
}

// world is a tree, and packages that are there; an upgrade turns both.
type world struct {
	r    *rand.Rand
	x    *tree.Tree
	was  base.Base
	pkgs map[string]arc.Pkg
	next int
}

// change is some packages that come, and go, which may be done.
func (w *world) change() (come []arc.Pkg, gone []string, now base.Base, ok bool) {
	for _, n := range []string{"p", "q", "s"} {
		switch w.r.Intn(4) {
		case 0, 1:
			w.next++
			come = append(come, anyPkg(w.r, n, fmt.Sprint(w.next)))
		case 2:
			gone = append(gone, n)
		}
	}
	w.r.Shuffle(len(come), func(i, j int) { come[i], come[j] = come[j], come[i] })
	now, f := dep.After(w.was, dep.Change{Come: come, Go: gone})
	return come, gone, now, f.E == api.OK
}

// commit lets packages be there.
func (w *world) commit(come []arc.Pkg, gone []string, now base.Base) {
	w.was, w.pkgs = now, after(w.pkgs, come, gone)
}

func after(pkgs map[string]arc.Pkg, come []arc.Pkg, gone []string) map[string]arc.Pkg {
	pkgs = maps.Clone(pkgs)
	for _, p := range come {
		pkgs[p.Name] = p
	}
	for _, n := range gone {
		delete(pkgs, n)
	}
	return pkgs
}

// outside is all that stands in a tree, but for an upgrade's places.
func outside(x *tree.Tree) map[string]node {
	at := all(x)
	maps.DeleteFunc(at, func(p string, _ node) bool { return p == "/var" || strings.HasPrefix(p, "/var/") })
	return at
}

// behind is what should stand behind moves, where so much did.
func behind(at map[string]node, moves []txn.Move, come []arc.Pkg) map[string]string {
	want := map[string]string{}
	for p, n := range at {
		want[p] = n.data
	}
	for _, m := range moves {
		switch data, _ := swap.Data(come, m.Path); m.Kind {
		case txn.Drop:
			delete(want, m.Path)
		default:
			want[m.Path] = string(data)
		}
	}
	return want
}

func texts(at map[string]node) map[string]string {
	got := map[string]string{}
	for p, n := range at {
		got[p] = n.data
	}
	return got
}

// Whatever is there, and whatever users do: the moves are those that should be, and all of them, or some, are done and undone.
func TestRandomUpgrades(t *testing.T) {
	counts := map[string]int{}
	for seed := range int64(1000) {
		w := &world{r: rand.New(rand.NewSource(seed)), x: stand(t), pkgs: map[string]arc.Pkg{}}
		for range 12 {
			shuffle(w.r, w.x, w.r.Intn(6))
			come, gone, now, ok := w.change()
			if !ok {
				counts["may not be"]++
				continue
			}
			named := map[string]arc.Pkg{}
			for _, p := range come {
				named[p.Name] = p
			}
			at := outside(w.x)
			want, fault := plan(state{w.pkgs, at}, state{pkgs: after(w.pkgs, come, gone)}, named)
			if fault.E != api.OK {
				counts["refused"]++
				refused(t, fmt.Sprint("seed ", seed), w.x, w.was, now, come, fault)
				continue
			}
			planned(t, fmt.Sprint("seed ", seed), w.x, w.was, now, come, want...)
			for _, m := range want {
				counts[fmt.Sprint("move ", m.Kind)]++
			}
			ahead := all(w.x)
			aside(t, w.x, want, come)
			cut := w.r.Intn(len(want) + 1)
			done(t, w.x, want, cut)
			if w.r.Intn(2) == 0 {
				counts["undone"]++
				undone(t, w.x, want, cut)
				turn(t, w.x, swap.Clean(w.x)...)
				same(t, fmt.Sprint("seed ", seed, ", undone"), w.x, ahead)
				continue
			}
			counts["done"]++
			for i := cut; i < len(want); i++ {
				turn(t, w.x, swap.Do(w.x, i, want[i])...)
			}
			turn(t, w.x, swap.Clean(w.x)...)
			if got, want := texts(outside(w.x)), behind(at, want, come); !maps.Equal(got, want) {
				t.Fatalf("seed %d: behind the moves stands %q, and not %q", seed, got, want)
			}
			w.commit(come, gone, now)
		}
		if t.Failed() {
			return
		}
	}
	for _, what := range []string{"may not be", "refused", "done", "undone", "move 0", "move 1", "move 2"} {
		if counts[what] < 100 {
			t.Errorf("%s: %d times", what, counts[what])
		}
	}
}
