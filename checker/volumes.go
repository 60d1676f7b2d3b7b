package checker

import (
	"slices"

	"volumegroup/api"
	"volumegroup/block"
	"volumegroup/thincheck"
	"volumegroup/thinrepair"
)

// words returns the words of a device; one that cannot be read is 0.
func words(x block.Device) []uint64 {
	var l []uint64
	for at := range x.Size() {
		w, _ := x.Read(at)
		l = append(l, w)
	}
	return l
}

func (c *check) pools() {
	c.ofKind(api.SegPool, func(v api.Volume, s api.Segment) {
		x, e := c.stack.Device(s.Areas[0].On)
		if e != api.OK {
			return
		}
		l := words(x)
		found := thincheck.Check(l)
		for _, y := range found {
			c.tell(thin, v.Name, y.Kind, y.At)
		}
		if len(found) == 0 {
			c.thins(v.Name, l)
		}
	})
}

// thins compares the thin volumes of a pool with the devices that its metadata has.
func (c *check) thins(pool string, l []uint64) {
	d, e := thinrepair.Dump(l)
	if e != api.OK {
		return
	}
	has, wanted := map[int]bool{}, map[int]bool{}
	c.ofKind(api.SegThin, func(v api.Volume, s api.Segment) {
		wanted[s.Device] = wanted[s.Device] || s.Pool == pool
	})
	for _, x := range d.Devices {
		has[x.ID] = true
		if !wanted[x.ID] {
			c.tell(orphan, pool, x.ID, 0)
		}
	}
	c.ofKind(api.SegThin, func(v api.Volume, s api.Segment) {
		if s.Pool == pool && !has[s.Device] {
			c.tell(lost, v.Name, s.Device, 0)
		}
	})
}

func (c *check) mirrors() {
	c.ofKind(api.SegMirror, func(v api.Volume, s api.Segment) {
		m, e := c.stack.Mirror(v.Name)
		if e != api.OK {
			return
		}
		var good []block.Device
		stale, dirty := m.Stale(), m.Dirty()
		for k, a := range s.Areas {
			if x, e := c.stack.Device(a.On); e == api.OK && !slices.Contains(stale, k) {
				good = append(good, x)
			}
		}
		for at := range m.Size() {
			if _, is := slices.BinarySearch(dirty, at/s.Chunk); !is && !equal(good, at) {
				c.tell(legs, v.Name, at, 0)
			}
		}
	})
}

// equal reports whether all devices that have a word in a sector have the same one.
func equal(l []block.Device, at int) bool {
	for _, x := range l {
		if same, e := block.Equal(l[0], x, at, 1); !same && e == api.OK {
			return false
		}
	}
	return true
}

func (c *check) parities() {
	c.ofKind(api.SegParity, func(v api.Volume, s api.Segment) {
		p, e := c.stack.Parity(v.Name)
		if e != api.OK || len(p.Stale()) > 0 {
			return
		}
		rows, _ := p.Scrub(0, p.Size())
		for _, r := range rows {
			c.tell(parity, v.Name, r, 0)
		}
	})
}

func (c *check) caches() {
	c.ofKind(api.SegCache, func(v api.Volume, s api.Segment) {
		x, e := c.stack.Cache(v.Name)
		if e != api.OK {
			return
		}
		origin, e1 := c.stack.Device(s.Areas[0].On)
		fast, e2 := c.stack.Device(s.Areas[1].On)
		if e1 != api.OK || e2 != api.OK {
			return
		}
		for k, y := range x.State().Slots {
			if y.Valid && !y.Dirty && !sameBlock(fast, origin, k, y.Block, s.Chunk) {
				c.tell(cache, v.Name, k, 0)
			}
		}
	})
}

// sameBlock reports whether a block of one device has the words of a block of another one.
func sameBlock(a, b block.Device, i, k, chunk int) bool {
	for n := range chunk {
		v, e1 := a.Read(i*chunk + n)
		w, e2 := b.Read(k*chunk + n)
		if e1 != api.OK || e2 != api.OK || v != w {
			return false
		}
	}
	return true
}
