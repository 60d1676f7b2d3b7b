package relocate

import (
	"math"
	"math/rand"
	"slices"
	"testing"

	"volumegroup/api"
	"volumegroup/block"
	"volumegroup/disk"
)

// devices is two disks of so many sectors; sector i of the first one is 10 + i.
func devices(t *testing.T, n int) (*disk.Array, block.Device, block.Device) {
	t.Helper()
	a, e := disk.New([]int{n, n})
	if e != api.OK {
		t.Fatal(e)
	}
	x, _ := block.Span(a, 0, 0, n)
	y, _ := block.Span(a, 1, 0, n)
	for at := range n {
		x.Write(at, uint64(10+at))
	}
	x.Flush()
	return a, x, y
}

func opened(t *testing.T, x, y block.Device, done int) *Mover {
	t.Helper()
	m, e := Open(x, y, 2, done)
	if e != api.OK {
		t.Fatalf("Open: %d", e)
	}
	return m
}

func is(t *testing.T, e, want api.Errno, what string) {
	t.Helper()
	if e != want {
		t.Errorf("%s: %d, not %d", what, e, want)
	}
}

// P34.1
func TestOpen(t *testing.T) {
	_, x, y := devices(t, 6)
	five, _ := block.Window(y, 0, 5)
	oldFive, _ := block.Window(x, 0, 5)
	for i, c := range []struct {
		old, new     block.Device
		extent, done int
		want         api.Errno
	}{
		{x, five, 0, 9, api.ErrRange}, {x, y, 1025, 0, api.ErrRange}, {x, y, -1, 0, api.ErrRange}, {x, five, 2, 9, api.ErrSize}, {five, x, 2, 0, api.ErrSize}, {oldFive, five, 2, 0, api.ErrSize}, {x, y, 4, 0, api.ErrSize}, {x, y, 2, -1, api.ErrRange}, {x, y, 2, 4, api.ErrRange}, {x, y, 2, 3, api.OK}, {x, y, 6, 0, api.OK}, {block.Zero(0), block.Zero(0), 1024, 0, api.OK},
	} {
		m, e := Open(c.old, c.new, c.extent, c.done)
		if e != c.want || (m == nil) != (e != api.OK) || m != nil && (m.Done() != c.done || m.Copied() || m.Size() != c.old.Size()) {
			t.Errorf("Open %d: %d", i, e)
		}
	}
}

// P34.2
func TestReadWriteFlush(t *testing.T) {
	a, x, y := devices(t, 6)
	y.Write(0, 90)
	y.Write(1, 91)
	m := opened(t, x, y, 1)
	for at, want := range []uint64{90, 91, 12, 13, 14, 15} {
		if v, e := m.Read(at); v != want || e != api.OK {
			t.Errorf("sector %d is %d", at, v)
		}
	}
	for _, at := range []int{-1, 6, math.MaxInt} {
		if _, e := m.Read(at); e != api.ErrRange || m.Write(at, 1) != api.ErrRange {
			t.Errorf("sector %d", at)
		}
	}
	m.Write(1, 1)
	m.Write(3, 3)
	is(t, m.Copy(), api.OK, "Copy")
	m.Write(2, 2)
	m.Write(4, 4)
	l0, _ := a.Image(0)
	l1, _ := a.Image(1)
	if !slices.Equal(l0, []uint64{10, 11, 2, 3, 4, 15}) || !slices.Equal(l1, []uint64{90, 1, 2, 3, 0, 0}) {
		t.Errorf("the places have %v, %v", l0, l1)
	}
	if m.Flush() != api.OK || a.Unflushed() != 0 {
		t.Error("Flush")
	}
	a.SetMissing(0, true)
	is(t, m.Write(2, 7), api.ErrMissing, "an error of the old place")
	if v, _ := y.Read(2); v != 2 || !m.Copied() {
		t.Error("the new place is not written")
	}
	m.Write(0, 5)
	is(t, m.Flush(), api.ErrMissing, "Flush")
	if a.Unflushed() != 0 {
		t.Error("the new place is flushed behind an error of the old one")
	}
	a.SetMissing(0, false)
	a.SetMissing(1, true)
	is(t, m.Write(2, 8), api.OK, "an error of the new place")
	if v, e := m.Read(2); v != 8 || e != api.OK || m.Copied() {
		t.Error("the extent counts as not copied")
	}
	is(t, m.Write(0, 1), api.ErrMissing, "a sector of the new place")
}

// P34.3
func TestCopyAdvance(t *testing.T) {
	a, x, y := devices(t, 4)
	m := opened(t, x, y, 0)
	is(t, m.Advance(), api.ErrStep, "Advance ahead of Copy")
	a.SetBad(0, 1, true)
	is(t, m.Copy(), api.ErrBad, "the device's error")
	if m.Copied() {
		t.Error("copied behind an error")
	}
	a.SetBad(0, 1, false)
	is(t, m.Copy(), api.OK, "Copy")
	if !m.Copied() || m.Done() != 0 || a.Unflushed() != 0 {
		t.Error("Copy flushes the new place")
	}
	is(t, m.Copy(), api.ErrStep, "Copy again")
	is(t, m.Advance(), api.OK, "Advance")
	if m.Done() != 1 || m.Copied() {
		t.Error("Advance")
	}
	m.Copy()
	m.Advance()
	is(t, m.Copy(), api.ErrStep, "Copy behind the last extent")
	is(t, m.Advance(), api.ErrStep, "Advance behind the last extent")
	if l, _ := a.Image(1); !slices.Equal(l, []uint64{10, 11, 12, 13}) {
		t.Errorf("the new place has %v", l)
	}
}

// P34.4
func TestSound(t *testing.T) {
	for seed := range 1000 {
		r := rand.New(rand.NewSource(int64(seed)))
		a, x, y := devices(t, 6)
		m := opened(t, x, y, 0)
		done := 0 // what the owner has committed
		may := [6][]uint64{}
		for at := range may {
			may[at] = []uint64{uint64(10 + at)}
		}
		for range 5 {
			a.Fuse(1 + r.Intn(25))
			next := done
			for range 20 {
				at, v := r.Intn(6), uint64(r.Intn(1000)+100)
				switch r.Intn(6) {
				case 0:
					if m.Flush() == api.OK {
						for at, l := range may {
							may[at] = l[len(l)-1:]
						}
					}
				case 1:
					m.Copy()
				case 2:
					if m.Copied() {
						next = m.Done() + 1
						if r.Intn(3) == 0 { // the power fails within the commit
							a.Fuse(1)
							m.Write(at, v)
							may[at] = append(may[at], v)
							break
						}
						done = next
						m.Advance()
					}
				default:
					if e := m.Write(at, v); e == api.OK || e == api.ErrPower {
						may[at] = append(may[at], v)
					}
				}
				if a.Down() {
					break
				}
				if v, e := m.Read(at); e == api.OK && v != may[at][len(may[at])-1] {
					t.Fatalf("seed %d: sector %d is %d, not %v", seed, at, v, may[at])
				}
			}
			keep := make([]bool, a.Unflushed())
			for i := range keep {
				keep[i] = r.Intn(2) == 0
			}
			a.Restart(keep)
			if r.Intn(2) == 0 {
				done = next
			}
			m = opened(t, x, y, done)
			for at, l := range may {
				v, e := m.Read(at)
				if e != api.OK || !slices.Contains(l, v) {
					t.Fatalf("seed %d: sector %d is %d, not one of %v", seed, at, v, l)
				}
				may[at] = []uint64{v}
			}
		}
	}
}
