package orch

import (
	"slices"

	"farrier/api"
	"farrier/base"
	"farrier/graph"
	"farrier/mgr"
	"farrier/swap"
	"farrier/tree"
	"farrier/txn"
	"farrier/vol"
)

// Open is what lies on a volume; an upgrade that was under way is finished, or undone.
func Open(v *vol.Vol, m *mgr.Mgr) (*Orch, api.Errno) {
	o := &Orch{Mgr: m, vol: v}
	if _, there := v.Find(swap.Db); !there {
		if e := v.Do(swap.Layout()...); e != api.OK {
			return nil, e
		}
	}
	// All is read ahead of anything being turned, so that what is nothing of this stays as it is.
	units, ok := o.load()
	if !ok {
		return nil, api.ErrLost
	}
	if e := o.recover(); e != api.OK {
		return nil, e
	}
	o.Set(units)
	return o, api.OK
}

// load takes what is kept, and tells the units of the packages that are there behind the upgrade that was under way; false: what is kept is nothing of this.
func (o *Orch) load() (*graph.Graph, bool) {
	t := o.vol.Tree
	if _, under := t.Find(swap.Txn); under {
		// Of a directory nothing is read, which is no upgrade.
		kept, _ := t.Read(swap.Txn)
		up, e := txn.Unpack(kept)
		if e != api.OK {
			return nil, false
		}
		o.up = &upgrade{Txn: up}
	}
	if o.up != nil && o.up.Phase == txn.Restarting {
		_, t = committed(t, o.up.Txn)
	}
	b, ok := rows(t)
	units, f := Units(b)
	if !ok || f.E != api.OK {
		return nil, false
	}
	o.base = b
	if o.up != nil {
		o.up.now = b
	}
	return units, true
}

// rows is the packages that are there, by their rows; false: these are none.
func rows(t *tree.Tree) (base.Base, bool) {
	names, e := t.List(swap.Db)
	if e != api.OK {
		return base.Base{}, false
	}
	var list [][]byte
	for _, name := range names {
		// Of a directory nothing is read, which is no row.
		row, _ := t.Read(in(swap.Db, name))
		list = append(list, row)
	}
	b, e := base.Unpack(list...)
	return b, e == api.OK && slices.Equal(b.Names(), names)
}

// recover finishes the upgrade that was under way, or undoes it.
func (o *Orch) recover() api.Errno {
	switch {
	case o.up == nil:
		return api.OK
	case o.up.Phase == txn.Restarting:
		return o.commit()
	}
	moved := o.up.Phase == txn.Swapping || o.up.Phase == txn.Undoing
	for moved && o.up.At > 0 {
		if e := o.undo(); e != api.OK {
			return e
		}
	}
	return o.clean()
}
