package tree_test

import (
	"bytes"
	"maps"
	"math/rand"
	"slices"
	"strings"
	"testing"

	"farrier/api"
	"farrier/path"
	"farrier/tree"
)

// model is what a tree should be, by the chapter's words: which node stands at each path, which are directories, and the files' bytes.
type model struct {
	quota, next int
	at          map[string]int
	dirs        map[int]bool
	data        map[int]string
}

func newModel(quota int) *model {
	return &model{max(quota, 0), 2, map[string]int{"/": 1}, map[int]bool{1: true}, map[int]string{}}
}

func (m *model) clone() *model {
	return &model{m.quota, m.next, maps.Clone(m.at), maps.Clone(m.dirs), maps.Clone(m.data)}
}

// do does operations, all of them or none.
func (m *model) do(ops ...tree.Op) api.Errno {
	work := m.clone()
	for _, o := range ops {
		if e := work.one(o); e != api.OK {
			return e
		}
	}
	if len(work.dirs)+len(work.data) > 128 {
		return api.ErrFull
	}
	if work.used() > work.quota {
		return api.ErrQuota
	}
	*m = *work
	return api.OK
}

// free is the error of a place at which nothing may ever stand.
func (m *model) free(p string) api.Errno {
	if !path.Right(p) {
		return api.ErrName
	}
	dir := p[:strings.LastIndex(p, "/")]
	if dir == "" {
		dir = "/"
	}
	i, ok := m.at[dir]
	if !ok {
		return api.ErrNone
	}
	if !m.dirs[i] {
		return api.ErrFile
	}
	return api.OK
}

func (m *model) one(o tree.Op) api.Errno {
	if o.Kind < 0 || o.Kind > 6 {
		return api.ErrArg
	}
	if e := m.free(o.Path); e != api.OK {
		return e
	}
	if len(o.Data) > 3500 {
		return api.ErrLong
	}
	i, ok := m.at[o.Path]
	if o.Kind == tree.Mkdir || o.Kind == tree.Create {
		if ok {
			return api.ErrTwice
		}
		if o.Kind == tree.Mkdir {
			m.dirs[m.next] = true
		} else {
			m.data[m.next] = string(o.Data)
		}
		m.at[o.Path] = m.next
		m.next++
		return api.OK
	}
	if !ok {
		return api.ErrNone
	}
	if o.Kind == tree.Rmdir {
		return m.rmdir(o.Path, i)
	}
	if m.dirs[i] {
		return api.ErrDir
	}
	return m.file(o, i)
}

func (m *model) rmdir(p string, i int) api.Errno {
	if !m.dirs[i] {
		return api.ErrFile
	}
	if len(m.list(p)) > 0 {
		return api.ErrBusy
	}
	delete(m.at, p)
	delete(m.dirs, i)
	return api.OK
}

func (m *model) file(o tree.Op, i int) api.Errno {
	switch o.Kind {
	case tree.Write:
		m.data[i] = string(o.Data)
		return api.OK
	case tree.Unlink:
		delete(m.at, o.Path)
		return api.OK
	}
	if e := m.free(o.To); e != api.OK {
		return e
	}
	j, ok := m.at[o.To]
	switch {
	case o.Kind == tree.Link && ok:
		return api.ErrTwice
	case o.Kind == tree.Link:
	case ok && m.dirs[j]:
		return api.ErrDir
	case ok && i == j:
		return api.OK
	default:
		delete(m.at, o.Path)
	}
	m.at[o.To] = i
	return api.OK
}

// list is a directory's names.
func (m *model) list(dir string) []string {
	var out []string
	for p := range m.at {
		if p != "/" && strings.TrimSuffix(dir, "/")+"/" == p[:strings.LastIndex(p, "/")+1] {
			out = append(out, p[strings.LastIndex(p, "/")+1:])
		}
	}
	slices.Sort(out)
	return out
}

func (m *model) used() int {
	n := 0
	for _, s := range m.data {
		n += len(s)
	}
	return n
}

func (m *model) loose() []int {
	var out []int
	for i := range m.data {
		if !slices.Contains(slices.Collect(maps.Values(m.at)), i) {
			out = append(out, i)
		}
	}
	slices.Sort(out)
	return out
}

func (m *model) reap(ids ...int) {
	for _, i := range m.loose() {
		if slices.Contains(ids, i) {
			delete(m.data, i)
		}
	}
}

// holds holds all that a tree tells of some paths, and of all that stands, against what it should.
func (m *model) holds(t *testing.T, what string, got *tree.Tree, paths ...string) {
	t.Helper()
	for _, p := range slices.Concat(paths, slices.Sorted(maps.Keys(m.at))) {
		m.stands(t, what, got, p)
	}
	if n := got.Used(); n != m.used() {
		t.Fatalf("%s: %d bytes are used, not %d", what, n, m.used())
	}
	if n := got.Nodes(); n != len(m.dirs)+len(m.data) {
		t.Fatalf("%s: there are %d nodes, not %d", what, n, len(m.dirs)+len(m.data))
	}
	if l := got.Loose(); !slices.Equal(l, m.loose()) {
		t.Fatalf("%s: %v are loose, not %v", what, l, m.loose())
	}
}

func (m *model) stands(t *testing.T, what string, got *tree.Tree, p string) {
	t.Helper()
	want, ok := m.at[p]
	if i, is := got.Find(p); i != want || is != ok {
		t.Fatalf("%s: at %q stands %d, %v, not %d", what, p, i, is, want)
	}
	dir := ok && m.dirs[want]
	if is := got.Dir(p); is != dir {
		t.Fatalf("%s: Dir of %q tells %v", what, p, is)
	}
	ofRead, ofList, names := api.ErrNone, api.ErrNone, []string(nil)
	switch {
	case dir:
		ofRead, ofList, names = api.ErrDir, api.OK, m.list(p)
	case ok:
		ofRead, ofList = api.OK, api.ErrFile
	}
	if b, e := got.Read(p); e != ofRead || string(b) != m.data[want] {
		t.Fatalf("%s: of %q %d bytes, %d are read, not %d, %d", what, p, len(b), e, len(m.data[want]), ofRead)
	}
	if l, e := got.List(p); e != ofList || !slices.Equal(l, names) {
		t.Fatalf("%s: of %q %q, %d are listed, not %q, %d", what, p, l, e, names, ofList)
	}
}

// chance makes operations by chance, of few names, so that they meet each other.
type chance struct {
	*rand.Rand
	paths []string
	most  int // how many bytes a file has at most
}

func newChance(seed int64, most int) chance {
	paths := []string{"", "/", "a", "/a/", "/A", "//", "/..", "/a/b/c/a/b/c", "/" + strings.Repeat("x", 13)}
	top := []string{""}
	for range 5 {
		var next []string
		for _, p := range top {
			next = append(next, p+"/a", p+"/b", p+"/c")
		}
		// Shallow paths are met more often than deep ones.
		for range 1 + 40/len(next) {
			paths = append(paths, next...)
		}
		top = next[:min(len(next), 3)]
	}
	return chance{rand.New(rand.NewSource(seed)), paths, most}
}

func (c chance) path() string { return c.paths[c.Intn(len(c.paths))] }

func (c chance) op() tree.Op {
	o := tree.Op{Kind: c.Intn(7), Path: c.path(), To: c.path(), Data: bytes.Repeat([]byte{byte(c.Intn(256))}, c.Intn(c.most+1))}
	switch c.Intn(40) {
	case 0:
		o.Kind = []int{-1, 7, 1 << 40, -1 << 40}[c.Intn(4)]
	case 1:
		o.Data = make([]byte, 3499+c.Intn(4))
	case 2:
		o.To = o.Path
	}
	return o
}

// batch is some operations: mostly few, of which thus many are done.
func (c chance) batch() []tree.Op {
	var ops []tree.Op
	for range []int{0, 1, 1, 1, 1, 2, 2, 3, 4, 9}[c.Intn(10)] {
		ops = append(ops, c.op())
	}
	return ops
}

// spoil turns what was handed in, as it may be.
func spoil(ops []tree.Op) {
	for i := range ops {
		for j := range ops[i].Data {
			ops[i].Data[j]++
		}
		ops[i] = tree.Op{Kind: 99}
	}
}

func copied(ops []tree.Op) []tree.Op {
	var out []tree.Op
	for _, o := range ops {
		o.Data = slices.Clone(o.Data)
		out = append(out, o)
	}
	return out
}

func TestEveryOrderOfCalls(t *testing.T) {
	seen := map[api.Errno]int{}
	for seed := range 60 {
		quota := []int{-5, 0, 40, 300, 9000, 1 << 30}[seed%6]
		c := newChance(int64(seed), []int{1, 30}[seed%2])
		got, m := tree.New(quota), newModel(quota)
		aside, ahead := got.Clone(), m.clone()
		for range 1500 {
			ops := c.batch()
			kept, want := copied(ops), m.do(ops...)
			if e := got.Do(ops...); e != want {
				t.Fatalf("seed %d: %v tells %d, not %d", seed, kept, e, want)
			}
			if !slices.EqualFunc(ops, kept, sameOp) {
				t.Fatalf("seed %d: what was handed in was turned", seed)
			}
			spoil(ops)
			seen[want]++
			m.holds(t, "behind operations", got, c.path(), c.path())
			switch c.Intn(30) {
			case 0:
				ids := slices.Concat(got.Loose()[:c.Intn(len(got.Loose())+1)], []int{1, c.Intn(m.next), -1, m.next})
				got.Reap(ids...)
				m.reap(ids...)
				m.holds(t, "behind Reap", got)
			case 1:
				ahead.holds(t, "aside", aside, c.paths...)
				aside, ahead = got, m.clone()
				got = got.Clone()
			case 2:
				got = loaded(t, got, m)
				m.reap(m.loose()...)
				m.holds(t, "behind Load", got, c.paths...)
			}
		}
	}
	for _, e := range []api.Errno{api.OK, api.ErrArg, api.ErrName, api.ErrNone, api.ErrFile, api.ErrLong, api.ErrTwice, api.ErrBusy, api.ErrDir, api.ErrQuota} {
		if seen[e] < 50 {
			t.Errorf("the calls tell %d just %d times", e, seen[e])
		}
	}
}
