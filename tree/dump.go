package tree

import (
	"maps"
	"math"
	"slices"

	"farrier/api"
	"farrier/path"
	"farrier/rec"
)

const (
	mostRow = api.MaxRec - 1 // how many bytes a row has, so that one byte more can be kept with it in a record
	mostNum = math.MaxInt32  // how great a number of a node that is loaded may be
)

// Pack is an operation's bytes, Unpack the operations that bytes are.
func Pack(ops ...Op) []byte {
	var parts []rec.Part
	for _, o := range ops {
		parts = append(parts, rec.Num(o.Kind), rec.Text(o.Path), rec.Text(o.To), rec.Raw(o.Data))
	}
	return rec.Pack(parts...)
}

func Unpack(b []byte) ([]Op, api.Errno) {
	var ops []Op
	r := rec.Read(b)
	for r.More() {
		ops = append(ops, Op{r.Num(Unlink), r.Text(api.MaxPath), r.Text(api.MaxPath), r.Raw(api.MaxData)})
	}
	if e := r.Err(); e != api.OK {
		return nil, e
	}
	return ops, api.OK
}

// Dump is what makes a tree, but for loose files.
//
// That is the number that comes next, the list of the files, each with its number and its bytes, and, directory by directory, its number and the list of what stands in it, each with its name and its number. They are cut into rows wherever one is full: there are never more of them than must be.
func (t *Tree) Dump() [][]byte {
	var files, dirs []rec.Part
	// A directory's number is greater than that of the one in which it stands, as it never moves: what is loaded finds its place.
	for _, i := range slices.Sorted(maps.Keys(t.nodes)) {
		n := t.nodes[i]
		switch {
		case n.dir():
			dirs = append(dirs, rec.Num(i), n.dumpKids())
		case !n.loose():
			files = append(files, rec.Num(i), rec.Raw(n.data))
		}
	}
	all := rec.Pack(rec.Num(t.next), rec.List(files...), rec.Pack(dirs...))
	var rows [][]byte
	for row := range slices.Chunk(all, mostRow) {
		rows = append(rows, slices.Clone(row))
	}
	return rows
}

// dumpKids is the list of what stands in a directory.
func (n *node) dumpKids() rec.Part {
	var parts []rec.Part
	for _, name := range slices.Sorted(maps.Keys(n.kids)) {
		parts = append(parts, rec.Text(name), rec.Num(n.kids[name]))
	}
	return rec.List(parts...)
}

// Load is the tree that rows of bytes make; false: they make none.
func Load(quota int, rows ...[]byte) (*Tree, bool) {
	t := New(quota)
	r := rec.Read(slices.Concat(rows...))
	t.next = r.Num(mostNum)
	ok := t.loadFiles(r.List())
	for ok && r.More() {
		ok = t.loadDir(r)
	}
	if !ok || t.next <= root || len(t.Loose()) > 0 {
		return nil, false
	}
	return t, true
}

// loadFiles takes the files, which stand nowhere yet.
func (t *Tree) loadFiles(r *rec.Reader) bool {
	for r.More() {
		i, data := r.Num(mostNum), r.Raw(api.MaxData)
		if !t.free(i) {
			return false
		}
		t.nodes[i] = &node{data: data}
	}
	return r.Good()
}

// loadDir takes what stands in a directory, which stands somewhere already.
func (t *Tree) loadDir(r *rec.Reader) bool {
	// Nothing has the number 0, which a reader tells where there is none.
	n, kids := t.nodes[r.Num(mostNum)], r.List()
	if n == nil || !n.dir() {
		return false
	}
	for kids.More() {
		name, i := kids.Text(api.MaxName), kids.Num(mostNum)
		if !t.loadKid(place{n, name}, i) {
			return false
		}
	}
	return kids.Good()
}

// loadKid lets something stand at a place: a file that was taken, or else a directory, which comes by this.
func (t *Tree) loadKid(at place, i int) bool {
	if _, there := at.dir.kids[at.name]; there || !path.Name(at.name) {
		return false
	}
	switch n := t.nodes[i]; {
	case n != nil && n.dir():
		return false
	case n != nil:
		t.put(at, i)
	case t.free(i):
		t.nodes[i] = newDir()
		at.dir.kids[at.name] = i
	default:
		return false
	}
	return true
}

// free tells whether a number may be that of a node which isn't there yet.
func (t *Tree) free(i int) bool { return i > root && i < t.next && t.nodes[i] == nil }
