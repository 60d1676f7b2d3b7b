package block

import (
	"math"
	"math/rand"
	"slices"
	"testing"

	"volumegroup/api"
	"volumegroup/disk"
)

func array(t *testing.T, sizes ...int) *disk.Array {
	t.Helper()
	a, e := disk.New(sizes)
	if e != api.OK {
		t.Fatal(e)
	}
	return a
}

func spanOf(t *testing.T, a *disk.Array, d, start, length int) Device {
	t.Helper()
	x, e := Span(a, d, start, length)
	if e != api.OK {
		t.Fatal(e)
	}
	return x
}

// ends checks that a device of n sectors refuses all others.
func ends(t *testing.T, x Device, n int) {
	t.Helper()
	if x.Size() != n {
		t.Errorf("Size is %d, not %d", x.Size(), n)
	}
	for _, at := range []int{-1, n, math.MaxInt, math.MinInt} {
		if v, e := x.Read(at); v != 0 || e != api.ErrRange {
			t.Errorf("Read(%d): %d", at, e)
		}
		if e := x.Write(at, 1); e != api.ErrRange {
			t.Errorf("Write(%d): %d", at, e)
		}
	}
}

// P5.1
func TestSpan(t *testing.T) {
	a := array(t, 10, 4)
	x := spanOf(t, a, 0, 3, 4)
	ends(t, x, 4)
	x.Write(3, 7)
	if v, _ := a.Read(0, 6); v != 7 {
		t.Error("sector 3 of the span")
	}
	spanOf(t, a, 1, 0, 4)
	for _, c := range [][3]int{{0, 0, 0}, {0, 0, -1}, {0, -1, 2}, {0, 8, 3}, {1, 4, 1}, {2, 0, 1}, {-1, 0, 1}, {0, 1, math.MaxInt}, {0, math.MaxInt, math.MaxInt}, {0, math.MinInt, 5}} {
		if x, e := Span(a, c[0], c[1], c[2]); x != nil || e != api.ErrRange {
			t.Errorf("Span%v: %d", c, e)
		}
	}
	a.Write(1, 0, 1)
	if x.Flush() != api.OK || a.Unflushed() != 1 {
		t.Error("Flush is that of the disk")
	}
	a.SetBad(0, 3, true)
	if _, e := x.Read(0); e != api.ErrBad {
		t.Error("a bad sector")
	}
	a.SetMissing(0, true)
	if x.Write(0, 1) != api.ErrMissing || x.Flush() != api.ErrMissing {
		t.Error("a missing disk")
	}
	a.SetMissing(0, false)
	a.Fuse(1)
	if x.Write(0, 1) != api.ErrPower {
		t.Error("the power")
	}
	ends(t, x, 4)
}

// noting is a device that notes its requests in order.
type noting struct {
	Device
	name  string
	log   *[]string
	error api.Errno
}

func (n noting) Read(at int) (uint64, api.Errno) {
	*n.log = append(*n.log, n.name+"r")
	return n.Device.Read(at)
}

func (n noting) Write(at int, v uint64) api.Errno {
	*n.log = append(*n.log, n.name+"w")
	return n.Device.Write(at, v)
}

func (n noting) Flush() api.Errno {
	*n.log = append(*n.log, n.name+"f")
	return n.error
}

// P5.2
func TestConcatWindow(t *testing.T) {
	a := array(t, 2, 2, 3)
	x, y, z := spanOf(t, a, 0, 0, 2), spanOf(t, a, 1, 0, 2), spanOf(t, a, 2, 0, 3)
	parts := []Device{x, Zero(0), y, z}
	c := Concat(parts)
	parts[0] = nil
	ends(t, c, 7)
	for at := range 7 {
		c.Write(at, uint64(at+1))
	}
	for i, want := range [][]uint64{{1, 2}, {3, 4}, {5, 6, 7}} {
		if l, _ := a.Image(i); !slices.Equal(l, want) {
			t.Errorf("disk %d has %v", i, l)
		}
	}
	if v, e := c.Read(3); v != 4 || e != api.OK {
		t.Error("Read(3)")
	}
	ends(t, Concat(nil), 0)
	if Concat(nil).Flush() != api.OK {
		t.Error("Flush of no devices")
	}
	var log []string
	f := Concat([]Device{noting{x, "a", &log, api.OK}, noting{y, "b", &log, api.ErrBad}, noting{z, "c", &log, api.ErrMissing}})
	if f.Flush() != api.ErrBad || !slices.Equal(log, []string{"af", "bf", "cf"}) {
		t.Errorf("flushes %v", log)
	}
	w, e := Window(c, 1, 5)
	if e != api.OK {
		t.Fatal(e)
	}
	ends(t, w, 5)
	if v, _ := w.Read(0); v != 2 {
		t.Error("sector 0 of the window")
	}
	if w.Write(4, 60) != api.OK || w.Flush() != api.OK || a.Unflushed() != 0 {
		t.Error("Write and Flush of the window")
	}
	if v, _ := c.Read(5); v != 60 {
		t.Error("sector 4 of the window")
	}
	for _, r := range [][2]int{{0, 0}, {7, 0}, {0, 7}} {
		if w, e := Window(c, r[0], r[1]); e != api.OK || w.Size() != r[1] {
			t.Errorf("Window%v", r)
		}
	}
	for _, r := range [][2]int{{-1, 1}, {8, 0}, {0, 8}, {0, -1}, {3, 5}, {math.MaxInt, math.MaxInt}, {1, math.MaxInt}} {
		if w, e := Window(c, r[0], r[1]); w != nil || e != api.ErrRange {
			t.Errorf("Window%v", r)
		}
	}
}

// P5.3
func TestSimple(t *testing.T) {
	z, f := Zero(3), Fail(3)
	ends(t, z, 3)
	ends(t, f, 3)
	ends(t, Zero(-4), 0)
	ends(t, Fail(-4), 0)
	if v, e := z.Read(2); v != 0 || e != api.OK || z.Write(2, 0) != api.ErrReadOnly || z.Flush() != api.OK {
		t.Error("Zero")
	}
	if v, e := f.Read(2); v != 0 || e != api.ErrBad || f.Write(2, 0) != api.ErrBad || f.Flush() != api.OK {
		t.Error("Fail")
	}
	a := array(t, 2)
	x := spanOf(t, a, 0, 0, 2)
	x.Write(1, 5)
	r := Reader(x)
	ends(t, r, 2)
	if v, e := r.Read(1); v != 5 || e != api.OK || r.Write(1, 6) != api.ErrReadOnly || r.Flush() != api.OK || a.Unflushed() != 0 {
		t.Error("Reader")
	}
	if v, _ := x.Read(1); v != 5 {
		t.Error("Reader writes")
	}
}

// P5.4
func TestAll(t *testing.T) {
	a := array(t, 6, 6)
	x, y := spanOf(t, a, 0, 0, 6), spanOf(t, a, 1, 0, 5)
	if e := WriteAll(x, 1, []uint64{1, 2, 3, 4, 5}); e != api.OK {
		t.Error(e)
	}
	if l, e := ReadAll(x, 2, 3); e != api.OK || !slices.Equal(l, []uint64{2, 3, 4}) {
		t.Error("ReadAll")
	}
	if l, e := ReadAll(x, 6, 0); e != api.OK || len(l) != 0 || WriteAll(x, 6, nil) != api.OK || Copy(x, y, 5, 0) != api.OK {
		t.Error("nothing at the end")
	}
	writes := a.Writes()
	for _, r := range [][2]int{{-1, 1}, {0, 7}, {7, 0}, {5, 2}, {0, -1}, {math.MaxInt, 1}, {1, math.MaxInt}} {
		if _, e := ReadAll(x, r[0], r[1]); e != api.ErrRange {
			t.Errorf("ReadAll%v", r)
		}
		if is, e := Equal(x, x, r[0], r[1]); is || e != api.ErrRange {
			t.Errorf("Equal%v", r)
		}
		if Copy(x, x, r[0], r[1]) != api.ErrRange {
			t.Errorf("Copy%v", r)
		}
	}
	if WriteAll(x, 4, []uint64{1, 2, 3}) != api.ErrRange || WriteAll(x, -1, nil) != api.ErrRange || Copy(x, y, 5, 1) != api.ErrRange || Copy(y, x, 5, 1) != api.ErrRange || a.Writes() != writes {
		t.Error("ranges without effect")
	}
	var log []string
	p, q := noting{x, "p", &log, 0}, noting{y, "q", &log, 0}
	if Copy(p, q, 1, 2) != api.OK || !slices.Equal(log, []string{"pr", "qw", "pr", "qw"}) {
		t.Errorf("Copy in the order %v", log)
	}
	log = nil
	if is, e := Equal(p, q, 1, 4); is || e != api.OK || !slices.Equal(log, []string{"pr", "qr", "pr", "qr", "pr", "qr"}) {
		t.Errorf("Equal in the order %v", log)
	}
	if is, e := Equal(p, q, 0, 3); !is || e != api.OK {
		t.Error("Equal")
	}
	a.SetBad(0, 3, true)
	if l, e := ReadAll(x, 1, 4); l != nil || e != api.ErrBad {
		t.Error("ReadAll over a bad sector")
	}
	if Copy(x, y, 2, 3) != api.ErrBad {
		t.Error("Copy over a bad sector")
	}
	if is, e := Equal(y, x, 3, 1); is || e != api.ErrBad {
		t.Error("Equal with a bad sector")
	}
	if is, e := Equal(x, y, 3, 1); is || e != api.ErrBad {
		t.Error("Equal with a bad sector")
	}
	if WriteAll(Zero(3), 0, []uint64{1}) != api.ErrReadOnly || Copy(y, Zero(5), 0, 1) != api.ErrReadOnly {
		t.Error("errors of writes")
	}
	if v, _ := y.Read(2); v != 2 {
		t.Error("Copy ahead of the error")
	}
}

// P5.5
func TestSound(t *testing.T) {
	r := rand.New(rand.NewSource(1))
	for range 200 {
		a := array(t, 4, 4)
		c := Concat([]Device{spanOf(t, a, 0, 1, 3), spanOf(t, a, 1, 0, 2)})
		w, _ := Window(c, 1, 4)
		other := spanOf(t, a, 1, 2, 2)
		other.Write(0, 99)
		other.Flush()
		candidates := [][]uint64{{0}, {0}, {0}, {0}}
		for k := range 20 {
			at, v := r.Intn(4), uint64(k+1)
			if r.Intn(6) == 0 {
				w.Flush()
				for i, l := range candidates {
					candidates[i] = l[len(l)-1:]
				}
				continue
			}
			w.Write(at, v)
			candidates[at] = append(candidates[at], v)
			if got, _ := w.Read(at); got != v {
				t.Fatal("the last completed write")
			}
		}
		keep := make([]bool, a.Unflushed())
		for i := range keep {
			keep[i] = r.Intn(2) == 0
		}
		a.Restart(keep)
		for at, l := range candidates {
			if v, _ := w.Read(at); !slices.Contains(l, v) {
				t.Fatalf("sector %d is %d, not one of %v", at, v, l)
			}
		}
		if v, _ := other.Read(0); v != 99 {
			t.Fatal("a disjoint device has changed")
		}
	}
}
