package execute

import (
	"volumegroup/activate"
	"volumegroup/api"
	"volumegroup/block"
	"volumegroup/cachemeta"
	"volumegroup/label"
	"volumegroup/model"
	"volumegroup/parityvol"
	"volumegroup/regionlog"
	"volumegroup/ring"
	"volumegroup/thinmeta"
	"volumegroup/thinpool"
)

const labelSize = 8

// execution is a command with the description to which it leads.
type execution struct {
	stack *activate.Stack
	next  api.Group
}

// act returns the function that does an act. What it needs of the present description is looked up now.
func (x *execution) act(a api.Act) func() api.Errno {
	table := map[int]func(api.Act) api.Errno{
		api.ActZero: x.zero, api.ActLog: x.log, api.ActParity: x.parity, api.ActPool: x.pool, api.ActCache: x.cache,
		api.ActThin: x.thin, api.ActSnap: x.snap, api.ActDrop: x.drop, api.ActTrim: x.trim, api.ActSync: x.sync, api.ActDetach: x.detach, api.ActLabel: x.label,
	}
	if a.Kind == api.ActErase {
		n, ok := x.stack.Number(a.Volume)
		return func() api.Errno { return x.erase(n, ok) }
	}
	f := table[a.Kind]
	if f == nil {
		return func() api.Errno { return api.ErrKind }
	}
	return func() api.Errno { return f(a) }
}

// zero writes 0 to sectors; the device is flushed behind them.
func (x *execution) zero(a api.Act) (e api.Errno) {
	d, e := x.stack.Raw(x.next, a.Volume)
	if e != api.OK {
		return e
	}
	defer func() {
		if e == api.OK {
			e = d.Flush()
		}
	}()
	for i := range a.Count {
		if e := d.Write(a.From+i, 0); e != api.OK {
			return e
		}
	}
	return api.OK
}

func (x *execution) log(a api.Act) api.Errno {
	d, e := x.stack.Raw(x.next, a.Volume)
	if e != api.OK {
		return e
	}
	return regionlog.Format(d, a.Number)
}

// segment returns the first segment of a volume of the next description.
func (x *execution) segment(name string) api.Segment {
	v, _ := model.Volume(x.next, name)
	return v.Segments[0]
}

func (x *execution) parity(a api.Act) api.Errno {
	s := x.segment(a.Volume)
	var legs []block.Device
	for _, area := range s.Areas {
		d, e := x.stack.Raw(x.next, area.On)
		if e != api.OK {
			return e
		}
		legs = append(legs, d)
	}
	return parityvol.Format(legs, s.Chunk)
}

func (x *execution) pool(a api.Act) api.Errno {
	d, e := x.stack.Raw(x.next, x.segment(a.Volume).Areas[0].On)
	if e != api.OK {
		return e
	}
	return thinmeta.Format(d, a.Number, a.Count)
}

func (x *execution) cache(a api.Act) api.Errno {
	d, e := x.stack.Raw(x.next, x.segment(a.Volume).Areas[2].On)
	if e != api.OK {
		return e
	}
	return cachemeta.Format(d, a.Number, a.Count)
}

// withLegs does something anew as long as failed legs can be settled.
func (x *execution) withLegs(f func() api.Errno) api.Errno {
	for n := 0; ; n++ {
		e := f()
		if e != api.ErrLeg || n > api.MaxLegs {
			return e
		}
		if ok, e := x.stack.Settle(e); !ok {
			return e
		}
	}
}

// inPool does something with a pool, which is committed behind it.
func (x *execution) inPool(name string, f func(p *thinpool.Pool) api.Errno) api.Errno {
	return x.withLegs(func() api.Errno {
		p, e := x.stack.Pool(name)
		if e != api.OK {
			return e
		}
		if e := f(p); e != api.OK {
			return e
		}
		return p.Commit()
	})
}

// remove deletes a thin device, if it exists.
func remove(p *thinpool.Pool, id int) (existed bool, e api.Errno) {
	switch _, e := p.Meta().Mapped(id); e {
	case api.OK:
		return true, p.Delete(id)
	case api.ErrDevice:
		return false, api.OK
	default:
		return false, e
	}
}

// renew makes a thin device in place of one that an interrupted command may have left.
func (x *execution) renew(a api.Act, create func(p *thinpool.Pool) api.Errno) api.Errno {
	return x.inPool(a.Volume, func(p *thinpool.Pool) api.Errno {
		existed, e := remove(p, a.Number)
		if e == api.OK && existed {
			e = p.Commit()
		}
		if e != api.OK {
			return e
		}
		return create(p)
	})
}

func (x *execution) thin(a api.Act) api.Errno {
	return x.renew(a, func(p *thinpool.Pool) api.Errno { return p.Create(a.Number) })
}

func (x *execution) snap(a api.Act) api.Errno {
	return x.renew(a, func(p *thinpool.Pool) api.Errno { return p.Snap(a.Number, a.Other) })
}

func (x *execution) drop(a api.Act) api.Errno {
	return x.inPool(a.Volume, func(p *thinpool.Pool) api.Errno {
		_, e := remove(p, a.Number)
		return e
	})
}

// trim lets a thin device be 0 from a sector on.
func (x *execution) trim(a api.Act) api.Errno {
	return x.inPool(a.Volume, func(p *thinpool.Pool) api.Errno {
		chunk := p.Meta().Chunk()
		if chunk == 0 {
			return api.ErrState
		}
		first := (a.From + chunk - 1) / chunk
		if e := zeroEnd(p, a.Number, a.From, first*chunk); e != api.OK {
			return e
		}
		l, e := p.Meta().Mappings(a.Number)
		if e != api.OK {
			return e
		}
		for _, m := range l {
			if m.Block < first {
				continue
			}
			if e := p.Discard(a.Number, m.Block); e != api.OK {
				return e
			}
		}
		return api.OK
	})
}

// zeroEnd writes 0 from a sector within a block to the end of the block, if it is mapped.
func zeroEnd(p *thinpool.Pool, id, from, end int) api.Errno {
	if from == end {
		return api.OK
	}
	m, e := p.Meta().Lookup(id, from/p.Meta().Chunk())
	if e != api.OK || !m.Mapped {
		return e
	}
	for at := from; at < end; at++ {
		if e := p.Write(id, at, 0); e != api.OK {
			return e
		}
	}
	return api.OK
}

func (x *execution) sync(a api.Act) api.Errno {
	return x.withLegs(func() api.Errno {
		m, e := x.stack.Mirror(a.Volume)
		if e != api.OK {
			return e
		}
		if _, e := m.Resync(m.Size()); e != api.OK {
			return e
		}
		return m.Flush()
	})
}

func (x *execution) detach(a api.Act) api.Errno {
	return x.withLegs(func() api.Errno {
		c, e := x.stack.Cache(a.Volume)
		if e != api.OK {
			return e
		}
		return c.Detach()
	})
}

// label makes a disk of the array a disk of the group.
func (x *execution) label(a api.Act) api.Errno {
	array := x.stack.Array()
	if a.Number < 0 || a.Number >= array.Count() {
		return api.ErrRange
	}
	for _, n := range activate.Found(array, x.next.ID) {
		if n == a.Number {
			return api.ErrUse
		}
	}
	d, _ := model.Disk(x.next, a.Volume)
	size := array.Size(a.Number)
	if a.From > size || d.First < labelSize+a.From || d.First+d.Extents*x.next.Extent > size {
		return api.ErrSize
	}
	disk, e := block.Span(array, a.Number, 0, size)
	if e != api.OK {
		return e
	}
	if e := label.Write(disk, api.Label{ID: d.ID, Size: size, Start: labelSize, Area: a.From, Group: x.next.ID}); e != api.OK {
		return e
	}
	area, e := block.Window(disk, labelSize, a.From)
	if e != api.OK {
		return e
	}
	return ring.Format(area)
}

// erase takes the label of a disk away that was present.
func (x *execution) erase(n int, present bool) api.Errno {
	if !present {
		return api.ErrMissing
	}
	array := x.stack.Array()
	disk, e := block.Span(array, n, 0, array.Size(n))
	if e != api.OK {
		return e
	}
	return label.Erase(disk)
}
