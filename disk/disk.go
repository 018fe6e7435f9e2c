// Package disk is layer 1: see shared/doc/01-disk.md.
package disk

import "farrier/api"

// Sector is a sector's bytes.
type Sector [api.Sector]byte

// write is a sector that was written, and isn't kept for sure.
type write struct {
	at int
	s  Sector
}

// Disk is sectors that are kept, and writes that perhaps are.
type Disk struct {
	kept  []Sector // what stays, also if the power goes
	last  []Sector // what was written last
	since []write  // what was written since the last Flush, in order
	steps int
	left  int // how many steps it is till the power goes; 0: none is planned
	keeps uint64
	down  bool
}

// New is a disk of so many sectors of noughts.
func New(n int) *Disk {
	n = min(max(n, 1), api.MaxSector)
	return &Disk{kept: make([]Sector, n), last: make([]Sector, n)}
}

// Len is how many sectors there are.
func (d *Disk) Len() int { return len(d.last) }

// Steps is how many writes and flushes were done, or lost with the power.
func (d *Disk) Steps() int { return d.steps }

// Plan lets the power go as the n-th write or flush from now on is asked for; of the writes that aren't kept for sure the i-th one is kept, if the bit i of keeps is set.
func (d *Disk) Plan(n int, keeps uint64) {
	d.left, d.keeps = max(n, 0), keeps
}

// Write writes a sector.
func (d *Disk) Write(at int, s Sector) api.Errno {
	if e := d.refused(at); e != api.OK {
		return e
	}
	d.last[at] = s
	d.since = append(d.since, write{at, s})
	return d.step()
}

// Flush keeps all that was written.
func (d *Disk) Flush() api.Errno {
	if d.down {
		return api.ErrDown
	}
	if e := d.step(); e != api.OK {
		return e
	}
	d.settle(^uint64(0))
	return api.OK
}

// Read is a sector as it was written last.
func (d *Disk) Read(at int) (Sector, api.Errno) {
	if e := d.refused(at); e != api.OK {
		return Sector{}, e
	}
	return d.last[at], api.OK
}

// Crash lets the power go now: of the writes that aren't kept for sure the i-th one is kept, if the bit i of keeps is set.
func (d *Disk) Crash(keeps uint64) {
	d.settle(keeps)
	d.Plan(0, 0)
	d.down = true
}

// Down tells whether there is no power; On brings it back.
func (d *Disk) Down() bool { return d.down }

func (d *Disk) On() { d.down = false }

// refused tells why a sector can't be reached, if it can't.
func (d *Disk) refused(at int) api.Errno {
	switch {
	case d.down:
		return api.ErrDown
	case at < 0 || at >= len(d.last):
		return api.ErrRange
	}
	return api.OK
}

// step counts a write or flush, and lets the power go, if it is the one that is planned.
func (d *Disk) step() api.Errno {
	d.steps++
	if d.left == 0 {
		return api.OK
	}
	d.left--
	if d.left > 0 {
		return api.OK
	}
	d.Crash(d.keeps)
	return api.ErrDown
}

// settle keeps, of what was written since the last Flush, the i-th, if the bit i modulo 64 of keeps is set; the rest is lost.
func (d *Disk) settle(keeps uint64) {
	for i, w := range d.since {
		if keeps>>(i%64)&1 == 1 {
			d.kept[w.at] = w.s
		}
	}
	for _, w := range d.since {
		d.last[w.at] = d.kept[w.at]
	}
	d.since = nil
}
