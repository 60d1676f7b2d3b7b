package system

import (
	"math/rand"
	"slices"
	"testing"

	"volumegroup/api"
	"volumegroup/block"
	"volumegroup/cachemeta"
	"volumegroup/cachevol"
	"volumegroup/disk"
	"volumegroup/mirror"
	"volumegroup/parityvol"
	"volumegroup/regionlog"
	"volumegroup/relocate"
	"volumegroup/stripe"
	"volumegroup/thinmeta"
	"volumegroup/thinpool"
)

// tower opens devices on one another; it formats them first if it is asked to.
type tower struct {
	t      *testing.T
	a      *disk.Array
	next   []int // the first sector of each disk that is not used
	format bool
	turn   int
	power  bool // the power has failed
}

func (w *tower) ok(e api.Errno) bool {
	if e == api.ErrPower {
		w.power = true
	} else if e != api.OK {
		w.t.Fatalf("opening: %d", e)
	}
	return e == api.OK
}

// base returns a run of sectors of the next disk.
func (w *tower) base(n int) block.Device {
	d := w.turn % w.a.Count()
	w.turn++
	x, e := block.Span(w.a, d, w.next[d], n)
	if e != api.OK {
		w.t.Fatal(e)
	}
	w.next[d] += n
	return x
}

type maker func(w *tower) block.Device

func span(n int) maker { return func(w *tower) block.Device { return w.base(n) } }

func mirrored(legs ...maker) maker {
	return func(w *tower) block.Device {
		var l []block.Device
		for _, m := range legs {
			l = append(l, m(w))
		}
		log := w.base(12)
		if w.power {
			return block.Fail(1)
		}
		if w.format {
			size := l[0].Size()
			for _, x := range l {
				size = min(size, x.Size())
			}
			regionlog.Format(log, mirror.Regions(size, 3))
		}
		m, e := mirror.Open(l, nil, log, 3)
		if !w.ok(e) {
			return block.Fail(1)
		}
		return m
	}
}

func parities(legs ...maker) maker {
	return func(w *tower) block.Device {
		var l []block.Device
		for _, m := range legs {
			l = append(l, m(w))
		}
		if w.power {
			return block.Fail(1)
		}
		if w.format {
			parityvol.Format(l, 2)
		}
		p, e := parityvol.Open(l, nil, 2)
		if !w.ok(e) {
			return block.Fail(1)
		}
		return p
	}
}

func cached(mode int, origin maker) maker {
	return func(w *tower) block.Device {
		o, fast, meta := origin(w), w.base(6), w.base(4)
		if w.power {
			return block.Fail(1)
		}
		if w.format {
			cachemeta.Format(meta, 3, 2)
		}
		c, e := cachevol.Open(o, fast, meta, mode)
		if !w.ok(e) {
			return block.Fail(1)
		}
		return c
	}
}

func thin(meta, data maker) maker {
	return func(w *tower) block.Device {
		m, d := meta(w), data(w)
		if w.power {
			return block.Fail(1)
		}
		blocks := d.Size() / 2
		if w.format {
			thinmeta.Format(m, blocks, 2)
		}
		p, e := thinpool.Open(m, d)
		if !w.ok(e) {
			return block.Fail(1)
		}
		if w.format {
			p.Create(1)
			p.Commit()
		}
		x, e := p.Thin(1, 10)
		if !w.ok(e) {
			return block.Fail(1)
		}
		return x
	}
}

func striped(legs ...maker) maker {
	return func(w *tower) block.Device {
		var l []block.Device
		for _, m := range legs {
			l = append(l, m(w))
		}
		if w.power {
			return block.Fail(1)
		}
		x, e := stripe.New(l, 1)
		w.ok(e)
		return x
	}
}

func moved(old, new maker) maker {
	return func(w *tower) block.Device {
		o, n := old(w), new(w)
		if w.power {
			return block.Fail(1)
		}
		x, e := block.Window(o, 0, 6)
		w.ok(e)
		y, e := block.Window(n, 0, 6)
		w.ok(e)
		m, e := relocate.Open(x, y, 2, 1)
		w.ok(e)
		return m
	}
}

// P40.4: T8
func TestStacks(t *testing.T) {
	p := parities(span(22), span(22), span(22))
	m := mirrored(span(10), span(11))
	c := cached(api.WriteBack, span(9))
	for i, make := range []maker{
		m, p, c, mirrored(p, span(9), c), parities(mirrored(span(22), span(22)), span(22), cached(api.WriteBack, span(22))), cached(api.WriteBack, mirrored(c, m)), cached(api.WriteThrough, cached(api.WriteBack, p)),
		thin(mirrored(span(900), span(900)), p), thin(cached(api.WriteBack, span(900)), cached(api.WriteBack, mirrored(span(12), span(12)))), cached(api.WriteBack, thin(span(900), cached(api.WriteBack, span(15)))), striped(m, c, p), moved(p, c), mirrored(thin(span(900), span(30)), striped(c, span(9))),
	} {
		for seed := range 25 {
			stack(t, i, make, rand.New(rand.NewSource(int64(seed))))
		}
	}
}

func stack(t *testing.T, number int, make maker, r *rand.Rand) {
	a, _ := disk.New([]int{3000, 3000, 3000})
	open := func(format bool) (block.Device, bool) {
		w := &tower{t: t, a: a, next: []int{0, 0, 0}, format: format}
		x := make(w)
		return x, !w.power
	}
	x, _ := open(true)
	x.Flush()
	var may [][]uint64
	for at := range x.Size() {
		if e := x.Write(at, 0); e != api.OK {
			t.Fatalf("stack %d: Write: %d", number, e)
		}
		may = append(may, []uint64{0})
	}
	x.Flush()
	next := uint64(1)
	for range 3 {
		a.Fuse(1 + r.Intn(150))
		for range 25 {
			at := r.Intn(len(may))
			switch r.Intn(8) {
			case 0:
				if x.Flush() == api.OK {
					for i, l := range may {
						may[i] = l[len(l)-1:]
					}
				}
			case 1, 2:
				if v, e := x.Read(at); e == api.OK && v != may[at][len(may[at])-1] {
					t.Fatalf("stack %d: sector %d is %d, not %v", number, at, v, may[at])
				}
			default:
				next++
				if e := x.Write(at, next); e == api.OK || e == api.ErrPower {
					may[at] = append(may[at], next)
				} else {
					t.Fatalf("stack %d: Write: %d", number, e)
				}
			}
			if a.Down() {
				break
			}
		}
		for range 2 {
			for up := false; !up; {
				keep := slices.Repeat([]bool{false}, a.Unflushed())
				for i := range keep {
					keep[i] = r.Intn(2) == 0
				}
				a.Restart(keep)
				if r.Intn(4) == 0 {
					a.Fuse(1 + r.Intn(30))
				}
				x, up = open(false)
			}
			a.Fuse(0)
			for at, l := range may {
				v, e := x.Read(at)
				if e != api.OK || !slices.Contains(l, v) {
					t.Fatalf("stack %d: sector %d is %d, %d, not one of %v", number, at, v, e, l)
				}
				may[at] = []uint64{v}
			}
		}
	}
}
