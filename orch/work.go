package orch

import (
	"slices"

	"farrier/api"
	"farrier/graph"
	"farrier/jobs"
	"farrier/mgr"
)

// todo is which units are still to stop, and which are to start then.
type todo struct {
	stop, start []string
	units       *graph.Graph // those that there are from when all have stopped
	asked       bool         // the next one was asked to stop, or was started, already
}

// anew is what is to be done so that units run with the files that came.
func (o *Orch) anew() *todo {
	u, running := o.up, o.In(mgr.Starting, mgr.On)
	hit := append(o.hit(), jobs.Gone(u.to, running)...)
	p := jobs.Restart(u.from, u.to, running, hit)
	u.stopped = p.Stop
	return &todo{stop: p.Stop, start: pulled(u.to, p.Start), units: u.to}
}

// asBefore is what is to be done so that units run with the files that were there.
func (o *Orch) asBefore() *todo {
	u := o.up
	p := jobs.Restart(u.to, u.from, o.In(mgr.Starting, mgr.On), o.hit())
	return &todo{stop: p.Stop, start: pulled(u.from, slices.Concat(u.stopped, p.Stop)), units: u.from}
}

// hit is the units that run with files that are superseded, but those that wait for a reboot.
func (o *Orch) hit() []string {
	waiting := func(n string) bool {
		u, _ := o.up.from.Get(n)
		return slices.Contains(u.Wants, Reboot)
	}
	return slices.DeleteFunc(o.Pending(), waiting)
}

// pulled is some units, and all that they require, each behind those behind which it stands.
func pulled(g *graph.Graph, names []string) []string { return g.Order(g.Pull(names...)...) }

// How it stands with what is to be done with units.
const (
	waits  = iota // one is starting, or stopping
	acted         // one was asked to stop, or was started
	failed        // the next one to start doesn't run
	over          // all is done
)

// work goes on with what is to be done with units.
func (o *Orch) work() int {
	t := o.up.todo
	for ; len(t.stop) > 0; t.stop, t.asked = t.stop[1:], false {
		if s := o.halt(t.stop[0]); s != over {
			return s
		}
	}
	o.Set(t.units)
	for ; len(t.start) > 0; t.start, t.asked = t.start[1:], false {
		if s := o.launch(t.start[0]); s != over {
			return s
		}
	}
	return over
}

// halt asks a unit to stop, once, and waits for it.
func (o *Orch) halt(n string) int {
	t, state := o.up.todo, o.State(n)
	switch {
	case state == mgr.Stopping:
		return waits
	case t.asked, state == mgr.Off, state == mgr.Failed:
		return over
	}
	t.asked = true
	o.Stop(n)
	return acted
}

// launch starts a unit, once, and waits for it.
func (o *Orch) launch(n string) int {
	t, state := o.up.todo, o.State(n)
	switch {
	case state == mgr.Starting, state == mgr.Stopping:
		return waits
	case state == mgr.On:
		return over
	case t.asked:
		return failed
	}
	t.asked = true
	if o.Start(n) != api.OK {
		return failed
	}
	return acted
}

// lose gives up the next unit that was to start.
func (o *Orch) lose() {
	t := o.up.todo
	n := t.start[0]
	t.start, t.asked = t.start[1:], false
	o.bad = append(o.bad, n)
	o.tell(Event{Kind: Lost, Unit: n})
}
