package parityvol

import (
	"volumegroup/api"
	"volumegroup/block"
)

// The journal of a leg is a selector and two slots. The selector is the number of the last record, times 2, plus the slot
// in which this leg has it; 0 if there has been none. A slot is overwritten only while the selector names the other one,
// and this durably, so that the record that is selected is always whole. All good legs have the record ahead of the first
// write that it describes; and what the record before it describes is durable by then.
const (
	selectorAt = 0
	slotAt     = 1
	slotWords  = 3
	noSector   = ^uint64(0)
)

// record is a write: the sector, its new word, and the new parity of its row.
type record struct {
	sector, word, parity uint64
}

func (r record) words() []uint64 {
	return []uint64{r.sector, r.word, r.parity}
}

// leg is a leg with the slot that its selector names.
type leg struct {
	block.Device
	slot   int
	failed bool
}

// journal makes a record the last one of all good legs; it reports whether it has begun to select it.
func (v *Volume) journal(r record) (bool, api.Errno) {
	v.last, v.seq = r, v.seq+1
	if e := v.steps(v.putSlot, v.flushLeg); e != api.OK {
		return false, e
	}
	return true, v.steps(v.putSelector, v.flushLeg)
}

// forget makes a record the last one that describes nothing.
func (v *Volume) forget() api.Errno {
	_, e := v.journal(record{sector: noSector})
	return e
}

// steps does each step on all good legs, also behind an error of one of them.
func (v *Volume) steps(l ...func(k int) api.Errno) api.Errno {
	first := api.OK
	for _, step := range l {
		for k := range v.legs {
			if !v.works(k) {
				continue
			}
			e := step(k)
			if e == api.ErrPower {
				return e
			}
			if first == api.OK {
				first = e
			}
		}
	}
	return first
}

func (v *Volume) putSlot(k int) (e api.Errno) {
	defer func() { e = v.note(k, e) }()
	return v.legs[k].writeSlot(v.last)
}

func (v *Volume) putSelector(k int) (e api.Errno) {
	defer func() { e = v.note(k, e) }()
	return v.legs[k].writeSelector(v.seq)
}

func (v *Volume) flushLeg(k int) (e api.Errno) {
	defer func() { e = v.note(k, e) }()
	return v.legs[k].Flush()
}

// note remembers a leg that has failed.
func (v *Volume) note(k int, e api.Errno) api.Errno {
	if e == api.OK || e == api.ErrPower {
		return e
	}
	v.legs[k].failed = true
	return api.ErrLeg
}

// writeSlot writes a record into the slot that is not selected.
func (l *leg) writeSlot(r record) api.Errno {
	return block.WriteAll(l, slotAt+(1-l.slot)*slotWords, r.words())
}

// writeSelector selects the other slot.
func (l *leg) writeSelector(seq uint64) api.Errno {
	other := 1 - l.slot
	e := l.Write(selectorAt, seq<<1|uint64(other))
	if e == api.OK {
		l.slot = other
	}
	return e
}

// start writes a journal whose last record describes nothing, whatever the leg had.
func (l *leg) start(seq uint64) api.Errno {
	l.slot = 0
	for _, step := range []func() api.Errno{
		l.Flush,
		func() api.Errno { return l.writeSlot(record{sector: noSector}) },
		l.Flush,
		func() api.Errno { return l.writeSelector(seq) },
		l.Flush,
	} {
		if e := step(); e != api.OK {
			return e
		}
	}
	return api.OK
}

// load reads the selector of a leg, and the record that it names.
func (l *leg) load() (seq uint64, r record, e api.Errno) {
	w, e := l.Read(selectorAt)
	if e != api.OK {
		return 0, record{}, e
	}
	l.slot = int(w & 1)
	words, e := block.ReadAll(l, slotAt+l.slot*slotWords, slotWords)
	if e != api.OK {
		return 0, record{}, e
	}
	return w >> 1, record{words[0], words[1], words[2]}, api.OK
}

// newest finds the last record that a good leg has; it reports whether all of them have it.
func (v *Volume) newest() (bool, api.Errno) {
	first, same := true, true
	for k, x := range v.legs {
		if !v.works(k) {
			continue
		}
		seq, r, e := x.load()
		if e != api.OK {
			return false, v.note(k, e)
		}
		same = same && (first || seq == v.seq)
		if first || seq > v.seq {
			v.seq, v.last = seq, r
		}
		first = false
	}
	return same, api.OK
}

// replay finishes the write that the last record describes.
func (v *Volume) replay() api.Errno {
	same, e := v.newest()
	if e != api.OK || v.seq == 0 || v.last.sector >= uint64(v.Size()) {
		return e
	}
	if e := v.steps(v.flushLeg); e != api.OK {
		return e
	}
	if !same { // a leg that is lost now must not take the only record of half a write with it
		if _, e := v.journal(v.last); e != api.OK {
			return e
		}
	}
	if e := v.apply(v.last); e != api.OK {
		return e
	}
	return v.steps(v.flushLeg)
}
