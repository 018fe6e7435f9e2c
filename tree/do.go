package tree

import (
	"slices"

	"farrier/api"
	"farrier/path"
)

// Do does operations, one by one: all of them, or none.
func (t *Tree) Do(ops ...Op) api.Errno {
	// They are done apart, so that those ahead of one that is refused turn nothing.
	work := t.Clone()
	for _, o := range ops {
		if e := work.do(o); e != api.OK {
			return e
		}
	}
	if e := work.over(); e != api.OK {
		return e
	}
	*t = *work
	return api.OK
}

// over tells of what a tree has too much, if it has.
func (t *Tree) over() api.Errno {
	switch {
	case t.Nodes() > api.MaxNodes:
		return api.ErrFull
	case t.Used() > t.quota:
		return api.ErrQuota
	}
	return api.OK
}

// place is where something may stand: a directory, and a name there.
type place struct {
	dir  *node
	name string
}

// place is where something may stand at a path.
func (t *Tree) place(p string) (place, api.Errno) {
	dir, name, ok := path.Parent(p)
	if !ok {
		return place{}, api.ErrName
	}
	n := t.stands(dir)
	switch {
	case n == nil:
		return place{}, api.ErrNone
	case !n.dir():
		return place{}, api.ErrFile
	}
	return place{n, name}, api.OK
}

// do does one operation, or tells why it can't, and turns nothing.
func (t *Tree) do(o Op) api.Errno {
	if o.Kind < Mkdir || o.Kind > Unlink {
		return api.ErrArg
	}
	at, e := t.place(o.Path)
	if e != api.OK {
		return e
	}
	if len(o.Data) > api.MaxData {
		return api.ErrLong
	}
	i, there := at.dir.kids[at.name]
	switch {
	case o.Kind == Mkdir || o.Kind == Create:
		if there {
			return api.ErrTwice
		}
		t.grow(at, o)
		return api.OK
	case !there:
		return api.ErrNone
	case o.Kind == Rmdir:
		return t.rmdir(at, i)
	case t.nodes[i].dir():
		return api.ErrDir
	}
	return t.turn(at, i, o)
}

// grow adds the directory, or the file, that an operation makes.
func (t *Tree) grow(at place, o Op) {
	i := t.next
	t.next++
	if o.Kind == Mkdir {
		t.nodes[i] = newDir()
		at.dir.kids[at.name] = i
		return
	}
	t.nodes[i] = &node{data: slices.Clone(o.Data)}
	t.put(at, i)
}

// rmdir takes a directory away.
func (t *Tree) rmdir(at place, i int) api.Errno {
	n := t.nodes[i]
	switch {
	case !n.dir():
		return api.ErrFile
	case len(n.kids) > 0:
		return api.ErrBusy
	}
	delete(at.dir.kids, at.name)
	delete(t.nodes, i)
	return api.OK
}

// turn does what is done to the file that stands at a place.
func (t *Tree) turn(at place, i int, o Op) api.Errno {
	switch o.Kind {
	case Write:
		t.nodes[i].data = slices.Clone(o.Data)
		return api.OK
	case Unlink:
		t.take(at)
		return api.OK
	}
	to, e := t.place(o.To)
	if e != api.OK {
		return e
	}
	if o.Kind == Link {
		return t.link(to, i)
	}
	return t.rename(at, to, i)
}

// link puts a file at one more place.
func (t *Tree) link(to place, i int) api.Errno {
	if _, there := to.dir.kids[to.name]; there {
		return api.ErrTwice
	}
	t.put(to, i)
	return api.OK
}

// rename moves a file from one place to another one, over what stands there.
func (t *Tree) rename(at, to place, i int) api.Errno {
	if old, there := to.dir.kids[to.name]; there {
		if t.nodes[old].dir() {
			return api.ErrDir
		}
		if old == i {
			return api.OK
		}
		t.take(to)
	}
	t.take(at)
	t.put(to, i)
	return api.OK
}

// put lets a file stand at a place at which nothing does.
func (t *Tree) put(at place, i int) {
	at.dir.kids[at.name] = i
	t.nodes[i].places++
}

// take lets the file at a place stand there no more.
func (t *Tree) take(at place) {
	t.nodes[at.dir.kids[at.name]].places--
	delete(at.dir.kids, at.name)
}
