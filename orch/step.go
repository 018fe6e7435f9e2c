package orch

import (
	"farrier/api"
	"farrier/swap"
	"farrier/tree"
	"farrier/txn"
)

// Step goes on with the upgrade: whether something was done.
func (o *Orch) Step() bool {
	if o.up == nil || o.vol.Dead() {
		return false
	}
	switch o.up.Phase {
	case txn.Staging:
		return o.stage()
	case txn.Swapping:
		return o.move()
	case txn.Restarting:
		return o.restart()
	case txn.Undoing:
		return o.moveBack()
	}
	return o.back()
}

// stage lays the next move's file aside; where all are, Swapping begins.
func (o *Orch) stage() bool {
	u := o.up
	if u.At == len(u.Moves) {
		return o.orRound(o.begin(txn.Swapping, 0, api.OK))
	}
	return o.orRound(o.keep(u.Phase, u.At+1, swap.Aside(u.At, u.Moves[u.At], u.files[u.At])...))
}

// move does the next one; where all are done, Restarting begins.
func (o *Orch) move() bool {
	u := o.up
	if u.At == len(u.Moves) {
		return o.orRound(o.begin(txn.Restarting, u.At, api.OK))
	}
	return o.orRound(o.keep(u.Phase, u.At+1, swap.Do(o.vol.Tree, u.At, u.Moves[u.At])...))
}

// restart stops and starts units; where that is done, the upgrade is.
func (o *Orch) restart() bool {
	if o.up.todo == nil {
		o.up.todo = o.anew()
	}
	switch o.work() {
	case waits:
		return false
	case acted:
		return true
	case failed:
		return o.round(api.ErrState)
	}
	return o.orRound(o.commit())
}

// moveBack undoes the last move that is done; where none is left, Back begins.
func (o *Orch) moveBack() bool {
	if o.up.At == 0 {
		return o.begin(txn.Back, 0, o.up.why) == api.OK
	}
	return o.undo() == api.OK
}

// back stops and starts units as they were; where that is done, the upgrade is undone.
func (o *Orch) back() bool {
	if o.up.todo == nil {
		o.up.todo = o.asBefore()
	}
	switch o.work() {
	case waits:
		return false
	case acted:
		return true
	case failed:
		o.lose()
		return true
	}
	return o.clean() == api.OK
}

// orRound tells whether something was done, where an error was told: by one the upgrade turns round.
func (o *Orch) orRound(e api.Errno) bool { return e == api.OK || o.round(e) }

// round turns the upgrade round: whether it could. (It can't where the power went.)
func (o *Orch) round(why api.Errno) bool {
	moved := o.up.At
	if o.up.Phase == txn.Staging {
		moved = 0
	}
	return o.begin(txn.Undoing, moved, why) == api.OK
}

// begin lets a phase begin, with so many moves done; why it turned round is told.
func (o *Orch) begin(phase, moved int, why api.Errno) api.Errno {
	e := o.keep(phase, moved)
	if e == api.OK {
		o.up.why, o.up.todo = why, nil
		o.tell(Event{Kind: Turned, Phase: phase, E: why})
	}
	return e
}

// keep does operations, and keeps the upgrade as it is behind them.
func (o *Orch) keep(phase, at int, ops ...tree.Op) api.Errno {
	t := o.up.Txn
	t.Phase, t.At = phase, at
	e := o.vol.Do(append(ops, tree.Op{Kind: tree.Write, Path: swap.Txn, Data: t.Pack()})...)
	if e == api.OK {
		o.up.Txn = t
	}
	return e
}

// undo undoes the last move that is done.
func (o *Orch) undo() api.Errno {
	last := o.up.At - 1
	return o.keep(txn.Undoing, last, swap.Undo(o.vol.Tree, last, o.up.Moves[last])...)
}

// commit makes the packages that come to be there those that are.
func (o *Orch) commit() api.Errno {
	ops, _ := committed(o.vol.Tree, o.up.Txn)
	e := o.vol.Do(ops...)
	if e == api.OK {
		o.base, o.up = o.up.now, nil
		o.tell(Event{Kind: Committed})
	}
	return e
}

// committed is what makes an upgrade done, and the tree behind the rows being moved.
func committed(t *tree.Tree, up txn.Txn) ([]tree.Op, *tree.Tree) {
	ops, end := swap.Commit(up.Come, up.Go), t.Clone()
	// What is to be cleaned is what is left there by then. Where the rows can't be moved, whoever does the operations is told so.
	end.Do(ops...)
	return append(ops, swap.Clean(end)...), end
}

// clean takes all away that was laid aside by an upgrade that is undone.
func (o *Orch) clean() api.Errno {
	e := o.vol.Do(swap.Clean(o.vol.Tree)...)
	if e == api.OK {
		o.tell(Event{Kind: Undone, E: o.up.why})
		o.up = nil
	}
	return e
}
