package regionlog

import (
	"math"
	"math/rand"
	"slices"
	"testing"

	"volumegroup/api"
	"volumegroup/block"
	"volumegroup/disk"
)

func device(t *testing.T, n int) (*disk.Array, block.Device) {
	t.Helper()
	a, e := disk.New([]int{n})
	if e != api.OK {
		t.Fatal(e)
	}
	x, _ := block.Span(a, 0, 0, n)
	return a, x
}

func opened(t *testing.T, regions int) (*disk.Array, *Log) {
	t.Helper()
	a, x := device(t, 10)
	if e := Format(x, regions); e != api.OK {
		t.Fatal(e)
	}
	l, e := Open(x, regions)
	if e != api.OK {
		t.Fatal(e)
	}
	return a, l
}

// P20.1
func TestFormatOpen(t *testing.T) {
	for n, want := range map[int]int{0: 0, -1: 0, 1: 2, 64: 2, 65: 3, 1 << 20: 1<<14 + 1, 1<<20 + 1: 0, math.MaxInt: 0, math.MinInt: 0} {
		if w := Words(n); w != want {
			t.Errorf("Words(%d) is %d", n, w)
		}
	}
	a, x := device(t, 3)
	block.WriteAll(x, 0, []uint64{5, 6, 7})
	if Format(x, 65) != api.OK || a.Unflushed() != 0 {
		t.Error("Format")
	}
	if l, _ := a.Image(0); !slices.Equal(l, []uint64{0x4C4F470000000041, 0, 0}) {
		t.Errorf("the words %x", l)
	}
	for _, c := range []struct {
		regions int
		want    api.Errno
	}{{0, api.ErrRange}, {-5, api.ErrRange}, {1<<20 + 1, api.ErrRange}, {129, api.ErrSize}, {66, api.ErrForm}, {64, api.ErrForm}, {65, api.OK}} {
		l, e := Open(x, c.regions)
		if e != c.want || (l == nil) != (e != api.OK) {
			t.Errorf("Open(%d): %d", c.regions, e)
		}
		if c.want != api.OK && c.want != api.ErrForm && Format(x, c.regions) != c.want {
			t.Errorf("Format(%d)", c.regions)
		}
	}
	x.Write(1, 1<<63|5)
	x.Write(2, 3)
	l, _ := Open(x, 65)
	if !slices.Equal(l.Dirty(), []int{0, 2, 63, 64}) {
		t.Errorf("the bits of the device: %v", l.Dirty())
	}
	a.SetBad(0, 2, true)
	x.Write(0, 9)
	if _, e := Open(x, 65); e != api.ErrBad {
		t.Error("all words are read first")
	}
	a.Fuse(2)
	if Format(x, 65) != api.ErrPower {
		t.Error("the device's error")
	}
}

// P20.2
func TestMarkClear(t *testing.T) {
	a, l := opened(t, 70)
	for _, r := range []int{-1, 70, math.MaxInt, math.MinInt} {
		if l.Mark(r) != api.ErrRange || l.Clear(r) != api.ErrRange || l.IsDirty(r) {
			t.Errorf("region %d", r)
		}
	}
	if l.Mark(69) != api.OK || a.Unflushed() != 0 || !l.IsDirty(69) {
		t.Error("Mark is durable")
	}
	if l.Clear(69) != api.OK || a.Unflushed() != 1 || l.IsDirty(69) {
		t.Error("Clear does not flush")
	}
	if l.Mark(69) != api.OK || a.Unflushed() != 0 {
		t.Error("Mark behind Clear")
	}
	l.Clear(69)
	if l.Sync() != api.OK || a.Unflushed() != 0 {
		t.Error("Sync")
	}
	l.Mark(1)
	a.SetMissing(0, true)
	if l.Mark(2) != api.ErrMissing || !l.IsDirty(2) {
		t.Error("a region counts as dirty behind an error of Mark")
	}
	if l.Clear(1) != api.ErrMissing || !l.IsDirty(1) || l.Sync() != api.ErrMissing {
		t.Error("a region counts as before behind an error of Clear")
	}
	if l.Mark(1) != api.ErrMissing {
		t.Error("a bit is not known to be durable behind an error of Clear")
	}
	a.SetMissing(0, false)
	if l.Mark(2) != api.OK || a.Unflushed() != 0 {
		t.Error("Mark again")
	}
	if w, _ := a.Read(0, 1); w != 6 {
		t.Errorf("the word is %d", w)
	}
}

// P20.3
func TestDirty(t *testing.T) {
	_, l := opened(t, 130)
	for _, r := range []int{129, 0, 64, 63} {
		l.Mark(r)
	}
	l.Clear(64)
	if !slices.Equal(l.Dirty(), []int{0, 63, 129}) || l.IsDirty(64) || !l.IsDirty(0) || l.IsDirty(130) || l.IsDirty(-1) {
		t.Errorf("Dirty: %v", l.Dirty())
	}
}

// P20.4
func TestPowerFailures(t *testing.T) {
	r := rand.New(rand.NewSource(1))
	for range 2000 {
		a, l := opened(t, 70)
		a.Fuse(1 + r.Intn(20))
		marked, named := map[int]bool{}, map[int]bool{}
		for range 30 {
			k := []int{0, 1, 2, 68, 69}[r.Intn(5)]
			var e api.Errno
			switch r.Intn(7) {
			case 0, 1, 2:
				e = l.Mark(k)
				named[k] = true
				if e == api.OK {
					marked[k] = true
				}
			case 3, 4, 5:
				e = l.Clear(k)
				delete(marked, k)
			default:
				e = l.Sync()
			}
			if e == api.ErrPower {
				break
			}
		}
		keep := make([]bool, a.Unflushed())
		for i := range keep {
			keep[i] = r.Intn(2) == 0
		}
		a.Restart(keep)
		x, _ := block.Span(a, 0, 0, 10)
		l, e := Open(x, 70)
		if e != api.OK {
			t.Fatal(e)
		}
		for k := range marked {
			if !l.IsDirty(k) {
				t.Fatalf("region %d was marked and is not dirty", k)
			}
		}
		for _, k := range l.Dirty() {
			if !named[k] {
				t.Fatalf("region %d is dirty and was not marked", k)
			}
		}
	}
}
