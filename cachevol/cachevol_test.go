package cachevol

import (
	"math"
	"math/rand"
	"slices"
	"testing"

	"volumegroup/api"
	"volumegroup/block"
	"volumegroup/cachemeta"
	"volumegroup/disk"
)

// world is a cached device: the origin on disk 0, the fast device on disk 1, the words on disk 2.
type world struct {
	t                  *testing.T
	a                  *disk.Array
	origin, fast, meta block.Device
	v                  *Volume
}

func newWorld(t *testing.T, size, slots, chunk, mode int) *world {
	t.Helper()
	a, e := disk.New([]int{size, slots * chunk, slots + 1})
	if e != api.OK {
		t.Fatal(e)
	}
	w := &world{t: t, a: a}
	w.origin, _ = block.Span(a, 0, 0, size)
	w.fast, _ = block.Span(a, 1, 0, slots*chunk)
	w.meta, _ = block.Span(a, 2, 0, slots+1)
	for at := range size {
		w.origin.Write(at, uint64(1000+at))
	}
	w.origin.Flush()
	if e := cachemeta.Format(w.meta, slots, chunk); e != api.OK {
		t.Fatal(e)
	}
	w.open(mode)
	return w
}

func (w *world) open(mode int) {
	w.t.Helper()
	v, e := Open(w.origin, w.fast, w.meta, mode)
	if e != api.OK {
		w.t.Fatalf("Open: %d", e)
	}
	w.v = v
}

func (w *world) read(at int, want uint64) {
	w.t.Helper()
	if v, e := w.v.Read(at); v != want || e != api.OK {
		w.t.Errorf("sector %d is %d, %d, not %d", at, v, e, want)
	}
}

func (w *world) write(at int, v uint64) {
	w.t.Helper()
	if e := w.v.Write(at, v); e != api.OK {
		w.t.Errorf("Write(%d): %d", at, e)
	}
}

// has checks a sector of a disk.
func (w *world) has(d, at int, want uint64) {
	w.t.Helper()
	if l, _ := w.a.Image(d); l[at] != want {
		w.t.Errorf("sector %d of disk %d is %d, not %d", at, d, l[at], want)
	}
}

// slots returns the blocks of the valid slots, -1 for others, plus 100 for dirty ones.
func (w *world) slots() []int {
	var l []int
	for _, s := range w.v.State().Slots {
		switch {
		case !s.Valid:
			l = append(l, -1)
		case s.Dirty:
			l = append(l, 100+s.Block)
		default:
			l = append(l, s.Block)
		}
	}
	return l
}

func (w *world) slotsAre(want ...int) {
	w.t.Helper()
	if !slices.Equal(w.slots(), want) {
		w.t.Errorf("the slots are %v, not %v", w.slots(), want)
	}
}

// P33.1
func TestOpen(t *testing.T) {
	w := newWorld(t, 9, 2, 2, api.WriteBack)
	short, _ := block.Window(w.fast, 0, 3)
	tiny, _ := block.Window(w.origin, 0, 3)
	for i, c := range []struct {
		origin, fast, meta block.Device
		mode               int
		want               api.Errno
	}{{w.origin, short, w.fast, 0, api.ErrRange}, {w.origin, short, w.fast, 3, api.ErrRange}, {w.origin, short, w.fast, 1, api.ErrForm}, {w.origin, short, w.meta, 1, api.ErrSize}} {
		if v, e := Open(c.origin, c.fast, c.meta, c.mode); v != nil || e != c.want {
			t.Errorf("Open %d: %d", i, e)
		}
	}
	w.read(2, 1002)
	w.read(3, 1003)
	w.read(0, 1000)
	w.read(1, 1001)
	w.write(0, 7)
	w.slotsAre(1, 100)
	w.v.Flush()
	if _, e := Open(tiny, w.fast, w.meta, 1); e != api.ErrDamage {
		t.Error("a block that the origin does not have")
	}
	// Not closed, write back: the slot that is not dirty is given up.
	w.open(api.WriteBack)
	w.slotsAre(-1, 100)
	if s := w.v.State(); s.Clock != 0 || s.Slots[1].Stamp != 0 {
		t.Error("the stamps")
	}
	// With write through, dirty slots are written back.
	w.open(api.WriteThrough)
	w.slotsAre(-1, 0)
	w.has(0, 0, 7)
	m, _ := cachemeta.Open(w.meta)
	if m.Clean() || m.Mode() != api.WriteThrough || m.Slots()[1].Dirty || !m.Slots()[1].Valid {
		t.Error("the words behind Open")
	}
	// Not closed, write through: all slots are given up.
	w.open(api.WriteBack)
	w.slotsAre(-1, -1)
	// Closed: the slots stay.
	w.read(2, 1002)
	w.read(3, 1003)
	w.write(2, 9)
	if w.v.Close() != api.OK {
		t.Error("Close")
	}
	w.open(api.WriteBack)
	w.slotsAre(101, -1)
	w.read(2, 9)
	w.a.SetMissing(2, true)
	if _, e := Open(w.origin, w.fast, w.meta, 1); e != api.ErrMissing {
		t.Error("the device's error")
	}
}

// P33.2
func TestRead(t *testing.T) {
	w := newWorld(t, 9, 1, 2, api.WriteBack)
	if w.v.Size() != 9 {
		t.Error("Size")
	}
	for _, at := range []int{-1, 9, math.MaxInt} {
		if v, e := w.v.Read(at); v != 0 || e != api.ErrRange || w.v.Write(at, 1) != api.ErrRange {
			t.Errorf("sector %d", at)
		}
	}
	w.read(8, 1008)
	w.read(8, 1008)
	w.slotsAre(-1)
	w.read(0, 1000)
	w.slotsAre(-1)
	if s := w.v.State(); !slices.Equal(s.Missed, []int{0}) {
		t.Error("a block that was missed")
	}
	w.read(1, 1001)
	w.slotsAre(0)
	w.has(1, 0, 1000)
	w.has(1, 1, 1001)
	clock := w.v.State().Clock
	w.read(0, 1000)
	if w.v.State().Clock != clock+1 {
		t.Error("the slot is touched")
	}
	w.a.SetBad(0, 0, true)
	w.read(0, 1000)
	w.a.SetBad(1, 0, true)
	if _, e := w.v.Read(0); e != api.ErrBad {
		t.Error("the fast device's error")
	}
	// The example of the chapter: a write makes block 0 dirty; block 1 takes its slot.
	w.write(0, 5)
	w.slotsAre(100)
	w.has(0, 0, 1000)
	w.read(2, 1002)
	w.read(3, 1003)
	w.slotsAre(1)
	w.has(0, 0, 5)
	w.read(0, 5)
}

func TestPromoteErrors(t *testing.T) {
	w := newWorld(t, 8, 1, 2, api.WriteBack)
	w.read(0, 1000)
	w.a.SetBad(0, 1, true)
	if _, e := w.v.Read(0); e != api.ErrBad {
		t.Error("an error of the origin")
	}
	w.slotsAre(-1)
	w.a.SetBad(0, 1, false)
	w.read(0, 1000)
	w.read(1, 1001)
	w.slotsAre(0)
	w.write(0, 3)
	w.read(2, 1002)
	w.a.SetMissing(2, true)
	if _, e := w.v.Read(3); e != api.ErrMissing {
		t.Error("an error of the words")
	}
	w.slotsAre(100)
	w.a.SetMissing(2, false)
	w.read(0, 3)
	w.read(4, 1004)
	w.a.SetBad(0, 5, true)
	if _, e := w.v.Read(5); e != api.ErrBad {
		t.Error("an error behind freeing")
	}
	w.slotsAre(-1)
	w.read(0, 3)
}

// P33.3
func TestWriteThrough(t *testing.T) {
	w := newWorld(t, 9, 1, 2, api.WriteThrough)
	w.write(8, 3)
	w.has(0, 8, 3)
	w.write(0, 4)
	w.has(0, 0, 4)
	w.slotsAre(-1)
	w.write(1, 5)
	w.slotsAre(0)
	w.has(0, 1, 5)
	w.has(1, 0, 4)
	w.has(1, 1, 5)
	w.a.SetMissing(0, true)
	if w.v.Write(0, 6) != api.ErrMissing {
		t.Error("an error of the origin")
	}
	w.slotsAre(-1)
	w.a.SetMissing(0, false)
	w.read(0, 4)
	w.read(0, 4)
	w.slotsAre(0)
	w.a.SetMissing(1, true)
	w.write(0, 7)
	w.slotsAre(-1)
	w.has(0, 0, 7)
	w.read(0, 7)
	if m := w.v.words.Slots(); m[0].Valid {
		t.Error("the word of the slot")
	}
	w.a.SetMissing(1, false)
	if w.v.Close() != api.OK {
		t.Error("Close behind freeing")
	}
	w.open(api.WriteThrough)
	w.read(0, 7)
	w.read(0, 7)
	w.a.SetMissing(1, true)
	w.a.SetMissing(2, true)
	w.write(0, 8)
	w.slotsAre(-1)
	w.a.SetMissing(1, false)
	w.a.SetMissing(2, false)
	if w.v.Close() != api.ErrState {
		t.Error("Close behind a slot that could not be freed")
	}
	if m, _ := cachemeta.Open(w.meta); m.Clean() || !m.Slots()[0].Valid {
		t.Error("the cache is not closed")
	}
	w.open(api.WriteThrough)
	w.read(0, 8)
}

func TestWriteBack(t *testing.T) {
	w := newWorld(t, 8, 1, 2, api.WriteBack)
	w.write(0, 3)
	w.has(0, 0, 3)
	n := w.a.Writes()
	w.write(0, 4) // two sectors of the block, its word, the word again, and the sector
	if w.a.Writes() != n+5 {
		t.Errorf("%d writes", w.a.Writes()-n)
	}
	w.slotsAre(100)
	w.has(0, 0, 3)
	w.has(1, 0, 4)
	if m, _ := cachemeta.Open(w.meta); !m.Slots()[0].Dirty {
		t.Error("the word is dirty, durably")
	}
	n = w.a.Writes()
	w.write(1, 5)
	if w.a.Writes() != n+1 {
		t.Error("a slot that is dirty already")
	}
	w.a.SetMissing(1, true)
	if w.v.Write(0, 9) != api.ErrMissing {
		t.Error("an error of the fast device")
	}
	w.slotsAre(100)
}

// P33.4
func TestFlush(t *testing.T) {
	w := newWorld(t, 8, 1, 2, api.WriteBack)
	w.write(4, 1)
	w.write(0, 1)
	w.write(0, 2)
	if w.v.Flush() != api.OK || w.a.Unflushed() != 0 {
		t.Error("Flush")
	}
	w.write(4, 1)
	w.write(0, 3)
	w.a.SetMissing(1, true)
	w.a.SetMissing(2, true)
	unflushed := w.a.Unflushed()
	if w.v.Flush() != api.ErrMissing || w.a.Unflushed() >= unflushed {
		t.Error("all three are flushed, also behind an error")
	}
	w.v.State().Slots[0].Block = 9
	if w.v.State().Slots[0].Block == 9 {
		t.Error("State shares memory")
	}
}

// P33.5
func TestCleanDetachClose(t *testing.T) {
	w := newWorld(t, 12, 3, 2, api.WriteBack)
	for _, at := range []int{0, 2, 4} {
		w.write(at, 1)
		w.write(at, uint64(50+at))
	}
	w.write(0, 60)
	w.slotsAre(100, 101, 102)
	if n, e := w.v.Clean(-1); n != 0 || e != api.ErrRange {
		t.Error("Clean(-1)")
	}
	if n, e := w.v.Clean(1); n != 1 || e != api.OK {
		t.Error("Clean(1)")
	}
	w.slotsAre(100, 1, 102)
	w.has(0, 2, 52)
	if m, _ := cachemeta.Open(w.meta); m.Slots()[1].Dirty || !m.Slots()[0].Dirty {
		t.Error("the words behind Clean")
	}
	w.a.SetBad(1, 0, true)
	if n, e := w.v.Clean(9); n != 1 || e != api.ErrBad {
		t.Errorf("Clean over a bad sector: %d, %d", n, e)
	}
	w.slotsAre(100, 1, 2)
	w.write(0, 61)
	if n, e := w.v.Clean(9); n != 1 || e != api.OK {
		t.Error("Clean(9)")
	}
	if n, e := w.v.Clean(9); n != 0 || e != api.OK {
		t.Error("nothing is dirty")
	}
	w.write(3, 70)
	if w.v.Detach() != api.OK {
		t.Error("Detach")
	}
	w.a.Restart(nil)
	w.slotsAre(-1, -1, -1)
	for at, want := range []uint64{61, 1001, 52, 70, 54, 1005} {
		w.has(0, at, want)
	}
	if w.v.Close() != api.OK {
		t.Error("Close")
	}
	_, e1 := w.v.Read(0)
	_, e2 := w.v.Clean(-1)
	for i, e := range []api.Errno{e1, e2, w.v.Write(0, 1), w.v.Flush(), w.v.Detach(), w.v.Close()} {
		if e != api.ErrState {
			t.Errorf("function %d of a closed cache: %d", i, e)
		}
	}
	if _, e := w.v.Read(99); e != api.ErrRange || w.v.Write(-1, 0) != api.ErrRange {
		t.Error("range ahead of state")
	}
	if m, _ := cachemeta.Open(w.meta); !m.Clean() {
		t.Error("the words behind Close")
	}
	w.open(api.WriteBack)
	w.a.SetMissing(0, true)
	if w.v.Close() != api.ErrMissing {
		t.Error("an error of Close")
	}
	w.a.SetMissing(0, false)
	w.read(0, 61)
}

// P33.6
func TestSound(t *testing.T) {
	for seed := range 1500 {
		r := rand.New(rand.NewSource(int64(seed)))
		size, slots, chunk := 7+r.Intn(4), 1+r.Intn(3), 1+r.Intn(3)
		mode := 1 + r.Intn(2)
		w := newWorld(t, size, slots, chunk, mode)
		may := make([][]uint64, size)
		for at := range may {
			may[at] = []uint64{uint64(1000 + at)}
		}
		flush := func() {
			for at, l := range may {
				may[at] = l[len(l)-1:]
			}
		}
		next := uint64(1)
		for range 4 {
			w.a.Fuse(1 + r.Intn(80))
			for range 30 {
				if w.a.Down() {
					break
				}
				at := r.Intn(size)
				switch n := r.Intn(20); {
				case n < 9:
					next++
					if e := w.v.Write(at, next); e == api.OK || e == api.ErrPower {
						may[at] = append(may[at], next)
					} else {
						t.Fatalf("seed %d: Write: %d", seed, e)
					}
				case n < 15:
					if v, e := w.v.Read(at); e == api.OK && v != may[at][len(may[at])-1] {
						t.Fatalf("seed %d: sector %d is %d, not %v", seed, at, v, may[at])
					}
				case n == 15:
					if w.v.Flush() == api.OK {
						flush()
					}
				case n == 16:
					w.v.Clean(r.Intn(3))
				case n == 17:
					if w.v.Detach() == api.OK {
						for at, l := range may {
							w.has(0, at, l[len(l)-1])
						}
					}
				case n == 18 && w.v.Close() == api.OK:
					flush()
					mode = 1 + r.Intn(2)
					v, e := Open(w.origin, w.fast, w.meta, mode)
					if e == api.ErrPower {
						break
					}
					if e != api.OK {
						t.Fatalf("seed %d: Open: %d", seed, e)
					}
					w.v = v
				}
			}
			for range 2 {
				keep := make([]bool, w.a.Unflushed())
				for i := range keep {
					keep[i] = r.Intn(2) == 0
				}
				w.a.Restart(keep)
				if mode == api.WriteThrough && w.v.mode == api.WriteThrough {
					for at, l := range may {
						if v, _ := w.origin.Read(at); !slices.Contains(l, v) {
							t.Fatalf("seed %d: sector %d of the origin is %d, not one of %v", seed, at, v, l)
						}
					}
				}
				mode = 1 + r.Intn(2)
				if r.Intn(3) == 0 { // the power fails in Open
					w.a.Fuse(1 + r.Intn(6))
					if _, e := Open(w.origin, w.fast, w.meta, mode); e == api.ErrPower {
						keep := make([]bool, w.a.Unflushed())
						for i := range keep {
							keep[i] = r.Intn(2) == 0
						}
						w.a.Restart(keep)
					}
					w.a.Fuse(0)
				}
				w.open(mode)
				for at, l := range may {
					v, e := w.v.Read(at)
					if e != api.OK || !slices.Contains(l, v) {
						t.Fatalf("seed %d: sector %d is %d, %d, not one of %v", seed, at, v, e, l)
					}
					may[at] = []uint64{v}
				}
			}
		}
	}
}
