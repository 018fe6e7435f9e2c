package vol_test

import (
	"bytes"
	"fmt"
	"maps"
	"slices"
	"strings"
	"testing"

	"farrier/api"
	"farrier/disk"
	"farrier/log"
	"farrier/tree"
	"farrier/vol"
)

// model is what a volume should be, by the chapter's words: a tree, how often each file is held, and how long the log's records are.
type model struct {
	tree  *tree.Tree
	quota int
	half  int
	held  map[int]int
	lens  []int
}

func newModel(sectors, quota int) *model {
	return &model{tree.New(quota), quota, (sectors - 2) / 2, map[int]int{}, nil}
}

// clone is the same model, apart.
func (m *model) clone() *model {
	return &model{m.tree.Clone(), m.quota, m.half, maps.Clone(m.held), slices.Clone(m.lens)}
}

// room is how many sectors records of such lengths have.
func room(lens []int) int {
	n := 0
	for _, l := range lens {
		n += (l + 16 + 62) / 63
	}
	return n
}

// recorded is how long the records are, if operations that make a tree are kept, and whether there is room for them.
func (m *model) recorded(after *tree.Tree, ops []tree.Op) ([]int, bool) {
	n := len(tree.Pack(ops...)) + 1
	if lens := append(slices.Clone(m.lens), n); n <= 4096 && room(lens) <= m.half {
		return lens, true
	}
	var lens []int
	for _, r := range after.Dump() {
		lens = append(lens, len(r)+1)
	}
	return lens, room(lens) <= m.half
}

// do does operations, all of them or none, while there is power.
func (m *model) do(ops ...tree.Op) api.Errno {
	after := m.tree.Clone()
	if e := after.Do(ops...); e != api.OK {
		return e
	}
	lens, ok := m.recorded(after, ops)
	if !ok {
		return api.ErrFull
	}
	m.tree, m.lens = after, lens
	m.reap()
	return api.OK
}

// reap takes away the loose files that nobody holds.
func (m *model) reap() {
	for _, i := range m.tree.Loose() {
		if m.held[i] == 0 {
			m.tree.Reap(i)
		}
	}
}

func (m *model) hold(p string) (int, api.Errno) {
	i, ok := m.tree.Find(p)
	if !ok {
		return 0, api.ErrNone
	}
	if m.tree.Dir(p) {
		return 0, api.ErrDir
	}
	m.held[i]++
	return i, api.OK
}

func (m *model) let(i int) api.Errno {
	if m.held[i] == 0 {
		return api.ErrNone
	}
	m.held[i]--
	m.reap()
	return api.OK
}

// reopen is what is there, as soon as the volume is opened.
func (m *model) reopen() {
	m.held = map[int]int{}
	m.reap()
}

// asked is what a tree is asked for.
type asked interface {
	Find(p string) (int, bool)
	Dir(p string) bool
	Read(p string) ([]byte, api.Errno)
	List(p string) ([]string, api.Errno)
}

// shape is all that stands in a tree, each path with its number, and a file's bytes.
func shape(t asked, dir string) string {
	names, _ := t.List(dir)
	var s strings.Builder
	for _, n := range names {
		p := strings.TrimSuffix(dir, "/") + "/" + n
		i, _ := t.Find(p)
		b, _ := t.Read(p)
		fmt.Fprintf(&s, "%s=%d:%x\n", p, i, b)
		if t.Dir(p) {
			s.WriteString(shape(t, p))
		}
	}
	return s.String()
}

// sameTree holds a tree against another one, also by the numbers that come next.
func sameTree(t *testing.T, what string, got, want *tree.Tree) {
	t.Helper()
	if g, w := shape(got, "/"), shape(want, "/"); g != w {
		t.Errorf("%s: there are\n%snot\n%s", what, g, w)
	}
	if g, w := got.Loose(), want.Loose(); !slices.Equal(g, w) {
		t.Errorf("%s: %v are loose, not %v", what, g, w)
	}
	if got.Used() != want.Used() || got.Nodes() != want.Nodes() {
		t.Errorf("%s: %d bytes of %d nodes, not %d of %d", what, got.Used(), got.Nodes(), want.Used(), want.Nodes())
	}
	if !slices.EqualFunc(got.Dump(), want.Dump(), bytes.Equal) {
		t.Errorf("%s: the dump is another one", what)
	}
}

// holds holds a volume against the model.
func (m *model) holds(t *testing.T, what string, v *vol.Vol) {
	t.Helper()
	sameTree(t, what, v.Tree, m.tree)
	for i := -1; i < 40; i++ {
		if g, w := v.Held(i), m.held[i]; g != w {
			t.Errorf("%s: %d is held %d times, not %d", what, i, g, w)
		}
	}
}

// records is the records on a disk, lens how long they are.
func records(t *testing.T, d *disk.Disk) [][]byte {
	t.Helper()
	l, e := log.Open(d)
	if e != api.OK {
		t.Fatalf("the log isn't there: %d", e)
	}
	return l.List()
}

func lens(t *testing.T, d *disk.Disk) []int {
	t.Helper()
	var out []int
	for _, b := range records(t, d) {
		out = append(out, len(b))
	}
	return out
}

// lies holds what lies on a disk against the model: its records, and the volume that is opened there, twice.
func (m *model) lies(t *testing.T, what string, d *disk.Disk) {
	t.Helper()
	if got := lens(t, d); !slices.Equal(got, m.lens) {
		t.Errorf("%s: records of %v bytes, not of %v", what, got, m.lens)
	}
	steps, next := d.Steps(), m.clone()
	next.reopen()
	for range 2 {
		next.holds(t, what+": opened", opened(t, d, m.quota))
	}
	if d.Steps() != steps {
		t.Errorf("%s: Open writes", what)
	}
}

// opened is the volume that lies on a disk.
func opened(t *testing.T, d *disk.Disk, quota int) *vol.Vol {
	t.Helper()
	v, e := vol.Open(d, quota)
	if e != api.OK || v == nil {
		t.Fatalf("Open tells %d", e)
	}
	return v
}

// told holds an error against the one that there should be.
func told(t *testing.T, what string, got, want api.Errno) {
	t.Helper()
	if got != want {
		t.Errorf("%s tells %d, not %d", what, got, want)
	}
}

// both is a disk, a volume on it, and its model, behind operations that go well, each of them a Do.
func both(t *testing.T, sectors, quota int, ops ...tree.Op) (*disk.Disk, *vol.Vol, *model) {
	t.Helper()
	d := disk.New(sectors)
	v, m := opened(t, d, quota), newModel(sectors, quota)
	for _, o := range ops {
		do(t, v, m, api.OK, o)
	}
	return d, v, m
}

// do does operations in a volume and its model, which both should tell an error.
func do(t *testing.T, v *vol.Vol, m *model, want api.Errno, ops ...tree.Op) {
	t.Helper()
	told(t, "the model's Do", m.do(ops...), want)
	told(t, "Do", v.Do(ops...), want)
	m.holds(t, "behind Do", v)
}

func mkdir(p string) tree.Op         { return tree.Op{Kind: tree.Mkdir, Path: p} }
func rmdir(p string) tree.Op         { return tree.Op{Kind: tree.Rmdir, Path: p} }
func create(p, data string) tree.Op  { return tree.Op{Kind: tree.Create, Path: p, Data: []byte(data)} }
func writeTo(p, data string) tree.Op { return tree.Op{Kind: tree.Write, Path: p, Data: []byte(data)} }
func link(p, to string) tree.Op      { return tree.Op{Kind: tree.Link, Path: p, To: to} }
func rename(p, to string) tree.Op    { return tree.Op{Kind: tree.Rename, Path: p, To: to} }
func unlink(p string) tree.Op        { return tree.Op{Kind: tree.Unlink, Path: p} }
