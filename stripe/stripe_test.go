package stripe

import (
	"math"
	"math/rand"
	"slices"
	"testing"

	"volumegroup/api"
	"volumegroup/block"
	"volumegroup/disk"
)

// P17.1
func TestPlaceBack(t *testing.T) {
	for _, c := range [][5]int{{4, 2, 9, 0, 5}, {4, 2, 4, 1, 0}, {1, 3, 7, 1, 2}, {5, 1, 17, 0, 17}, {3, 6, 18, 0, 3}, {65536, 6, 1 << 30, 4, 178913280}} {
		leg, offset, e := Place(c[0], c[1], c[2])
		if e != api.OK || c[2] < 1<<30 && (leg != c[3] || offset != c[4]) {
			t.Errorf("Place(%d, %d, %d) is %d, %d, %d", c[0], c[1], c[2], leg, offset, e)
		}
		if at, e := Back(c[0], c[1], leg, offset); at != c[2] || e != api.OK {
			t.Errorf("Back of sector %d is %d", c[2], at)
		}
	}
	for _, c := range [][3]int{{0, 2, 0}, {65537, 2, 0}, {1, 0, 0}, {1, 7, 0}, {1, 2, -1}, {1, 2, 1<<30 + 1}, {math.MinInt, math.MinInt, math.MinInt}, {-1, 2, 5}} {
		if leg, offset, e := Place(c[0], c[1], c[2]); leg != 0 || offset != 0 || e != api.ErrRange {
			t.Errorf("Place%v: %d", c, e)
		}
		if at, e := Back(c[0], c[1], 0, c[2]); at != 0 || e != api.ErrRange {
			t.Errorf("Back%v: %d", c, e)
		}
	}
	for _, leg := range []int{-1, 2, math.MaxInt} {
		if _, e := Back(1, 2, leg, 0); e != api.ErrRange {
			t.Errorf("Back of leg %d", leg)
		}
	}
}

// P17.2
func TestSize(t *testing.T) {
	for _, c := range []struct {
		chunk int
		sizes []int
		want  int
		e     api.Errno
	}{
		{4, []int{10, 8}, 16, 0}, {4, []int{10, 11}, 16, 0}, {4, []int{3, 99}, 0, 0}, {1, []int{7}, 7, 0}, {1, []int{1 << 30, 1 << 30}, 1 << 31, 0}, {2, []int{0, 5}, 0, 0},
		{0, []int{1}, 0, api.ErrRange}, {65537, []int{1}, 0, api.ErrRange}, {1, nil, 0, api.ErrRange}, {1, make([]int, 7), 0, api.ErrRange}, {1, []int{5, -1}, 0, api.ErrRange}, {1, []int{1<<30 + 1}, 0, api.ErrRange},
	} {
		if n, e := Size(c.chunk, c.sizes); n != c.want || e != c.e {
			t.Errorf("Size(%d, %v) is %d, %d", c.chunk, c.sizes, n, e)
		}
	}
}

// noting is a device that counts flushes.
type noting struct {
	block.Device
	flushes *[]int
	number  int
	error   api.Errno
}

func (n noting) Flush() api.Errno {
	*n.flushes = append(*n.flushes, n.number)
	return n.error
}

// P17.3
func TestDevice(t *testing.T) {
	a, _ := disk.New([]int{5, 4})
	x, _ := block.Span(a, 0, 0, 5)
	y, _ := block.Span(a, 1, 0, 4)
	legs := []block.Device{x, y}
	s, e := New(legs, 2)
	if e != api.OK || s.Size() != 8 {
		t.Fatal("New")
	}
	legs[0] = nil
	for at := range 8 {
		if s.Write(at, uint64(at+1)) != api.OK {
			t.Error("Write")
		}
	}
	i0, _ := a.Image(0)
	i1, _ := a.Image(1)
	if !slices.Equal(i0, []uint64{1, 2, 5, 6, 0}) || !slices.Equal(i1, []uint64{3, 4, 7, 8}) {
		t.Errorf("the legs have %v, %v", i0, i1)
	}
	if v, e := s.Read(5); v != 6 || e != api.OK {
		t.Error("Read")
	}
	a.SetMissing(0, true)
	for _, at := range []int{-1, 8, math.MaxInt} {
		if _, e := s.Read(at); e != api.ErrRange || s.Write(at, 1) != api.ErrRange {
			t.Errorf("sector %d", at)
		}
	}
	if _, e := s.Read(0); e != api.ErrMissing || s.Write(1, 1) != api.ErrMissing || s.Write(2, 1) != api.OK {
		t.Error("a missing leg")
	}
	var flushes []int
	f, _ := New([]block.Device{noting{y, &flushes, 1, 0}, noting{y, &flushes, 2, api.ErrBad}, noting{y, &flushes, 3, api.ErrMissing}}, 1)
	if f.Flush() != api.ErrBad || !slices.Equal(flushes, []int{1, 2, 3}) {
		t.Errorf("flushes %v", flushes)
	}
	for _, c := range []struct {
		legs  []block.Device
		chunk int
	}{{nil, 1}, {[]block.Device{x}, 0}, {[]block.Device{x}, 65537}, {[]block.Device{block.Zero(1<<30 + 1)}, 1}, {slices.Repeat([]block.Device{x}, 7), 1}} {
		if s, e := New(c.legs, c.chunk); s != nil || e != api.ErrRange {
			t.Errorf("New of %d legs, chunk %d: %d", len(c.legs), c.chunk, e)
		}
	}
}

// P17.4
func TestInverse(t *testing.T) {
	r := rand.New(rand.NewSource(1))
	for range 2000 {
		chunk, n, at := 1+r.Intn(20), 1+r.Intn(6), r.Intn(1000)
		leg, offset, _ := Place(chunk, n, at)
		if back, e := Back(chunk, n, leg, offset); back != at || e != api.OK {
			t.Fatalf("Back does not undo Place(%d, %d, %d)", chunk, n, at)
		}
		leg, offset = r.Intn(n), r.Intn(1000)
		at, _ = Back(chunk, n, leg, offset)
		if l, o, e := Place(chunk, n, at); l != leg || o != offset || e != api.OK {
			t.Fatalf("Place does not undo Back(%d, %d, %d, %d)", chunk, n, leg, offset)
		}
	}
}

func TestSound(t *testing.T) {
	r := rand.New(rand.NewSource(2))
	for range 100 {
		a, _ := disk.New([]int{4, 4})
		x, _ := block.Span(a, 0, 0, 4)
		y, _ := block.Span(a, 1, 0, 4)
		s, _ := New([]block.Device{x, y}, 1)
		var candidates [8][]uint64
		for i := range candidates {
			candidates[i] = []uint64{0}
		}
		for k := range 20 {
			if r.Intn(6) == 0 {
				s.Flush()
				for i, l := range candidates {
					candidates[i] = l[len(l)-1:]
				}
			}
			at := r.Intn(8)
			s.Write(at, uint64(k+1))
			candidates[at] = append(candidates[at], uint64(k+1))
		}
		keep := make([]bool, a.Unflushed())
		for i := range keep {
			keep[i] = r.Intn(2) == 0
		}
		a.Restart(keep)
		for at, l := range candidates {
			if v, _ := s.Read(at); !slices.Contains(l, v) {
				t.Fatalf("sector %d is %d, not one of %v", at, v, l)
			}
		}
	}
}
