package disk

import (
	"math"
	"math/rand"
	"slices"
	"testing"

	"volumegroup/api"
)

func array(t *testing.T, sizes ...int) *Array {
	t.Helper()
	a, e := New(sizes)
	if e != api.OK {
		t.Fatalf("New(%v): %d", sizes, e)
	}
	return a
}

func read(t *testing.T, a *Array, d, at int, want uint64) {
	t.Helper()
	if v, e := a.Read(d, at); v != want || e != api.OK {
		t.Errorf("sector %d of disk %d is %d, %d, not %d", at, d, v, e, want)
	}
}

func write1(t *testing.T, a *Array, d, at int, v uint64) {
	t.Helper()
	if e := a.Write(d, at, v); e != api.OK {
		t.Errorf("Write(%d, %d, %d): %d", d, at, v, e)
	}
}

// P4.1
func TestNew(t *testing.T) {
	a := array(t, 1, 65536)
	if a.Count() != 2 || a.Size(0) != 1 || a.Size(1) != 65536 || a.Size(2) != 0 || a.Size(-1) != 0 || a.Down() || a.Missing(0) || a.Writes() != 0 {
		t.Error("a new array")
	}
	read(t, a, 1, 65535, 0)
	if a := array(t); a.Count() != 0 {
		t.Error("no disks")
	}
	for _, c := range []struct {
		sizes []int
		want  api.Errno
	}{{make([]int, 9), api.ErrLimit}, {[]int{0}, api.ErrRange}, {[]int{5, -1}, api.ErrRange}, {[]int{65537}, api.ErrRange}, {make([]int, 8), api.ErrRange}} {
		if a, e := New(c.sizes); a != nil || e != c.want {
			t.Errorf("New(%v): %d", c.sizes, e)
		}
	}
}

// P4.2
func TestReadWriteFlush(t *testing.T) {
	a := array(t, 4, 2)
	write1(t, a, 0, 3, 9)
	read(t, a, 0, 3, 9)
	for _, p := range [][2]int{{-1, 0}, {2, 0}, {0, -1}, {0, 4}, {1, 2}, {math.MaxInt, math.MinInt}} {
		if v, e := a.Read(p[0], p[1]); v != 0 || e != api.ErrRange {
			t.Errorf("Read(%v): %d", p, e)
		}
		if e := a.Write(p[0], p[1], 1); e != api.ErrRange {
			t.Errorf("Write(%v): %d", p, e)
		}
	}
	if a.Flush(2) != api.ErrRange || a.Flush(-1) != api.ErrRange {
		t.Error("Flush of no disk")
	}
	a.SetBad(0, 3, true)
	a.SetMissing(0, true)
	if _, e := a.Read(0, 3); e != api.ErrMissing {
		t.Error("missing ahead of bad")
	}
	if a.Write(0, 3, 1) != api.ErrMissing || a.Flush(0) != api.ErrMissing {
		t.Error("a missing disk")
	}
	if _, e := a.Read(0, 4); e != api.ErrRange {
		t.Error("range ahead of missing")
	}
	a.SetMissing(0, false)
	if v, e := a.Read(0, 3); v != 0 || e != api.ErrBad {
		t.Error("a bad sector")
	}
	write1(t, a, 0, 3, 4)
	read(t, a, 0, 3, 4)
	if a.Unflushed() != 2 || a.Flush(1) != api.OK || a.Unflushed() != 2 || a.Flush(0) != api.OK || a.Unflushed() != 0 {
		t.Error("flushes")
	}
	a.Fuse(1)
	a.Write(0, 0, 1)
	if _, e := a.Read(9, 9); e != api.ErrPower {
		t.Error("power ahead of range")
	}
	if a.Write(0, 9, 1) != api.ErrPower || a.Flush(9) != api.ErrPower {
		t.Error("power ahead of range")
	}
}

// P4.3
func TestFuse(t *testing.T) {
	a := array(t, 2)
	a.SetBad(0, 0, true)
	a.Fuse(2)
	a.Write(0, 7, 1)
	write1(t, a, 0, 1, 5)
	if a.Down() || a.Write(0, 0, 6) != api.ErrPower || !a.Down() || a.Writes() != 1 || a.Unflushed() != 1 {
		t.Error("the second write that would succeed")
	}
	if a.Write(0, 1, 6) != api.ErrPower {
		t.Error("the power is off")
	}
	a.Restart(nil)
	if _, e := a.Read(0, 0); e != api.ErrBad {
		t.Error("the write that blew the fuse did something")
	}
	for _, n := range []int{0, -5} {
		a.Fuse(1)
		a.Fuse(n)
		write1(t, a, 0, 1, 1)
	}
	a.Fuse(1)
	a.SetMissing(0, true)
	if a.Write(0, 0, 1) != api.ErrMissing || a.Down() {
		t.Error("a write that would not succeed")
	}
	if a.Writes() != 3 {
		t.Errorf("%d writes", a.Writes())
	}
}

// P4.4
func TestRestart(t *testing.T) {
	for _, c := range []struct {
		keep []bool
		want uint64
	}{{[]bool{false}, 5}, {[]bool{true}, 6}, {nil, 5}} {
		a := array(t, 2)
		write1(t, a, 0, 0, 5)
		a.Flush(0)
		write1(t, a, 0, 0, 6)
		a.Restart(c.keep)
		read(t, a, 0, 0, c.want)
	}
	a := array(t, 2, 2)
	write1(t, a, 0, 0, 1)
	write1(t, a, 1, 0, 2)
	write1(t, a, 0, 0, 3)
	write1(t, a, 1, 1, 4)
	a.Flush(1)
	write1(t, a, 1, 0, 5)
	write1(t, a, 0, 0, 6)
	a.SetBad(1, 1, true)
	a.SetMissing(0, true)
	a.Fuse(9)
	a.Restart([]bool{true, true, false})
	if a.Unflushed() != 0 || !a.Missing(0) || a.Down() {
		t.Error("behind Restart")
	}
	if _, e := a.Read(1, 1); e != api.ErrBad {
		t.Error("a bad sector stays bad")
	}
	a.SetMissing(0, false)
	read(t, a, 0, 0, 3)
	read(t, a, 1, 0, 2)
	a.Restart([]bool{true})
	read(t, a, 0, 0, 3)
	for range 20 {
		write1(t, a, 0, 1, 1)
	}
}

// P4.5
func TestFaults(t *testing.T) {
	a := array(t, 3)
	if a.SetMissing(1, true) != api.ErrRange || a.SetMissing(-1, true) != api.ErrRange || a.SetBad(0, 3, true) != api.ErrRange || a.SetBad(1, 0, true) != api.ErrRange || a.SetBad(0, -1, false) != api.ErrRange {
		t.Error("faults of nothing")
	}
	write1(t, a, 0, 1, 7)
	a.Fuse(1)
	a.Write(0, 0, 1)
	if a.SetMissing(0, true) != api.OK || a.SetBad(0, 2, true) != api.OK || a.SetBad(0, 2, false) != api.OK || !a.Missing(0) || a.Missing(1) || a.Missing(-1) {
		t.Error("faults while the power is off")
	}
	a.SetMissing(0, false)
	a.Restart([]bool{true})
	read(t, a, 0, 1, 7)
	read(t, a, 0, 2, 0)
}

// P4.6
func TestImages(t *testing.T) {
	a := array(t, 2, 2)
	write1(t, a, 0, 0, 1)
	write1(t, a, 1, 0, 2)
	a.SetBad(0, 0, true)
	a.SetBad(1, 1, true)
	a.SetMissing(0, true)
	a.Fuse(1)
	a.Write(1, 1, 9)
	l, e := a.Image(0)
	if e != api.OK || !slices.Equal(l, []uint64{1, 0}) {
		t.Error("Image")
	}
	l[0] = 99
	if m, _ := a.Image(0); m[0] != 1 {
		t.Error("an image shares memory")
	}
	if _, e := a.Image(2); e != api.ErrRange {
		t.Error("Image of no disk")
	}
	if a.Load(2, nil) != api.ErrRange || a.Load(0, l[:1]) != api.ErrSize {
		t.Error("errors of Load")
	}
	if a.Load(0, l) != api.OK || a.Unflushed() != 1 {
		t.Error("Load")
	}
	l[0] = 0
	c := a.Copy()
	a.SetMissing(0, false)
	a.Restart([]bool{false})
	read(t, a, 0, 0, 99)
	read(t, a, 1, 0, 0)
	if _, e := a.Read(1, 1); e != api.ErrBad {
		t.Error("Load of another disk repairs a sector")
	}
	if !c.Down() || !c.Missing(0) || c.Unflushed() != 1 || c.Writes() != 2 {
		t.Error("Copy")
	}
	c.Restart([]bool{true})
	read(t, c, 1, 0, 2)
	c.Fuse(2)
	d := c.Copy()
	write1(t, d, 1, 0, 1)
	if d.Write(1, 0, 1) != api.ErrPower || c.Down() {
		t.Error("the fuse of a copy")
	}
}

// P4.7
func TestSurvivors(t *testing.T) {
	r := rand.New(rand.NewSource(1))
	for range 300 {
		a := array(t, 3, 3)
		var candidates [2][3][]uint64
		for d := range 2 {
			for at := range 3 {
				candidates[d][at] = []uint64{0}
			}
		}
		for k := range 30 {
			d, at, v := r.Intn(2), r.Intn(3), uint64(k+1)
			if r.Intn(5) == 0 {
				a.Flush(d)
				for at := range 3 {
					l := candidates[d][at]
					candidates[d][at] = l[len(l)-1:]
				}
				continue
			}
			write1(t, a, d, at, v)
			candidates[d][at] = append(candidates[d][at], v)
		}
		all := a.Copy()
		keep := make([]bool, a.Unflushed())
		for i := range keep {
			keep[i] = r.Intn(2) == 0
		}
		a.Restart(keep)
		for i := range keep {
			keep[i] = true
		}
		all.Restart(keep)
		for d := range 2 {
			for at := range 3 {
				l := candidates[d][at]
				if v, _ := a.Read(d, at); !slices.Contains(l, v) {
					t.Fatalf("%d is not one of %v", v, l)
				}
				read(t, all, d, at, l[len(l)-1])
			}
		}
	}
}
