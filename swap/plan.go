package swap

import (
	"bytes"
	"slices"

	"farrier/api"
	"farrier/arc"
	"farrier/base"
	"farrier/crc"
	"farrier/dep"
	"farrier/path"
	"farrier/tree"
	"farrier/txn"
)

// Data is the bytes of a file that comes; false: none comes there.
func Data(come []arc.Pkg, p string) ([]byte, bool) {
	stands := func(f arc.File) bool { return f.Path == p }
	for _, pkg := range come {
		if i := slices.IndexFunc(pkg.Files, stands); i >= 0 {
			return pkg.Files[i].Data, true
		}
	}
	return nil, false
}

// Plan is the moves by which packages come and go, or why they can't.
func Plan(t *tree.Tree, was, now base.Base, come []arc.Pkg) ([]txn.Move, dep.Fault) {
	var moves []txn.Move
	for _, p := range now.Files() {
		data, comes := Data(come, p)
		switch {
		case !comes:
		case barred(t, was, p):
			name, _, _ := now.Owner(p)
			return nil, dep.Fault{E: api.ErrOwner, Name: name, What: p}
		case !turned(t, was, p) && !has(t, p, data):
			moves = append(dirs(t, moves, p), txn.Move{Kind: txn.Put, Path: p})
		}
	}
	for _, p := range was.Files() {
		_, _, kept := now.Owner(p)
		if !kept && file(t, p) && !turned(t, was, p) {
			moves = append(moves, txn.Move{Kind: txn.Drop, Path: p})
		}
	}
	if len(moves) > api.MaxMoves {
		return nil, dep.Fault{E: api.ErrMany}
	}
	return moves, dep.Fault{}
}

// barred tells whether something stands at a path, or above it, for which no file may come there.
func barred(t *tree.Tree, was base.Base, p string) bool {
	if _, stands := t.Find(p); stands {
		_, _, owned := was.Owner(p)
		return t.Dir(p) || !owned
	}
	return slices.ContainsFunc(above(p), func(dir string) bool { return file(t, dir) })
}

// turned tells whether the file at a path was the users' to turn, and they turned it.
func turned(t *tree.Tree, was base.Base, p string) bool {
	data, e := t.Read(p)
	_, f, _ := was.Owner(p)
	return e == api.OK && f.Config && crc.Of(data) != f.Sum
}

// has tells whether a file stands at a path, and has these very bytes.
func has(t *tree.Tree, p string, data []byte) bool {
	have, e := t.Read(p)
	return e == api.OK && bytes.Equal(have, data)
}

// file tells whether a file stands at a path.
func file(t *tree.Tree, p string) bool {
	_, e := t.Read(p)
	return e == api.OK
}

// dirs is some moves, and those by which the directories come that a path needs, and that aren't there by then.
func dirs(t *tree.Tree, moves []txn.Move, p string) []txn.Move {
	for _, dir := range above(p) {
		want := txn.Move{Kind: txn.Dir, Path: dir}
		comes := func(m txn.Move) bool { return m == want }
		if !t.Dir(dir) && !slices.ContainsFunc(moves, comes) {
			moves = append(moves, want)
		}
	}
	return moves
}

// above is the directories in which a path stands, but for the root, the outermost first.
func above(p string) []string {
	var list []string
	names, _ := path.Split(p)
	for i := 1; i < len(names); i++ {
		list = append(list, path.Join(names[:i]...))
	}
	return list
}
