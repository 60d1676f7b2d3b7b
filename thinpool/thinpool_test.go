package thinpool

import (
	"math"
	"math/rand"
	"slices"
	"testing"

	"volumegroup/api"
	"volumegroup/block"
	"volumegroup/disk"
	"volumegroup/thinmeta"
)

// world is a pool with its metadata on disk 0 and its data on disk 1.
type world struct {
	t          *testing.T
	a          *disk.Array
	meta, data block.Device
	p          *Pool
}

func newWorld(t *testing.T, dataBlocks, chunk, more int) *world {
	t.Helper()
	n := thinmeta.Size(dataBlocks) + more*api.BlockWords
	a, e := disk.New([]int{n, dataBlocks * chunk})
	if e != api.OK {
		t.Fatal(e)
	}
	w := &world{t: t, a: a}
	w.meta, _ = block.Span(a, 0, 0, n)
	w.data, _ = block.Span(a, 1, 0, dataBlocks*chunk)
	if e := thinmeta.Format(w.meta, dataBlocks, chunk); e != api.OK {
		t.Fatal(e)
	}
	w.open()
	return w
}

func (w *world) open() {
	w.t.Helper()
	p, e := Open(w.meta, w.data)
	if e != api.OK {
		w.t.Fatalf("Open: %d", e)
	}
	w.p = p
}

func (w *world) read(id, at int, want uint64) {
	w.t.Helper()
	if v, e := w.p.Read(id, at); v != want || e != api.OK {
		w.t.Errorf("sector %d of device %d is %d, %d, not %d", at, id, v, e, want)
	}
}

func (w *world) is(e, want api.Errno, what string) {
	w.t.Helper()
	if e != want {
		w.t.Errorf("%s: %d, not %d", what, e, want)
	}
}

// P28.1
func TestOpenThin(t *testing.T) {
	w := newWorld(t, 8, 2, 20)
	short, _ := block.Window(w.data, 0, 15)
	if p, e := Open(w.meta, short); p != nil || e != api.ErrSize {
		t.Error("too little data")
	}
	if p, e := Open(w.data, w.data); p != nil || e != api.ErrForm {
		t.Error("no metadata")
	}
	w.is(w.p.Create(1), api.OK, "Create")
	if !slices.Equal(w.p.Meta().Devices(), []int{1}) {
		t.Error("Meta")
	}
	for i, c := range []struct {
		id, size int
		want     api.Errno
	}{{1, 5, api.OK}, {1, 0, api.OK}, {1, (api.MaxKey + 1) * 2, api.OK}, {1, (api.MaxKey+1)*2 + 1, api.ErrRange}, {1, -1, api.ErrRange}, {-1, 5, api.ErrRange}, {65536, 5, api.ErrRange}, {2, 5, api.ErrDevice}, {2, -5, api.ErrRange}} {
		x, e := w.p.Thin(c.id, c.size)
		if e != c.want || (x == nil) != (e != api.OK) || e == api.OK && x.Size() != c.size {
			t.Errorf("Thin %d: %d", i, e)
		}
	}
	x, _ := w.p.Thin(1, 5)
	w.is(x.Write(4, 7), api.OK, "Write")
	if v, e := x.Read(4); v != 7 || e != api.OK {
		t.Error("Read")
	}
	for _, at := range []int{-1, 5, math.MaxInt} {
		if _, e := x.Read(at); e != api.ErrRange || x.Write(at, 1) != api.ErrRange {
			t.Errorf("sector %d", at)
		}
	}
	if x.Flush() != api.OK || w.a.Unflushed() != 0 || w.p.Meta().Seq() != 1 {
		t.Error("Flush is Commit")
	}
	w.a.SetMissing(0, true)
	w.p.Create(9)
	x.Flush()
	w.a.SetMissing(0, false)
	if _, e := w.p.Thin(-1, -1); e != api.ErrState {
		t.Error("broken metadata")
	}
	if _, e := w.p.Read(1, -1); e != api.ErrRange {
		t.Error("range ahead of state")
	}
	if _, e := w.p.Read(1, 1); e != api.ErrState || w.p.Write(1, 1, 1) != api.ErrState || w.p.Discard(1, 1) != api.ErrState || x.Flush() != api.ErrState {
		t.Error("broken metadata")
	}
}

// P28.2
func TestRead(t *testing.T) {
	w := newWorld(t, 8, 2, 20)
	w.p.Create(1)
	w.read(1, 5, 0)
	w.read(1, (api.MaxKey+1)*2-1, 0)
	w.p.Write(1, 5, 9)
	w.read(1, 5, 9)
	w.read(1, 4, 0)
	for i, c := range []struct {
		id, at int
		want   api.Errno
	}{{1, -1, api.ErrRange}, {1, (api.MaxKey + 1) * 2, api.ErrRange}, {2, 0, api.ErrDevice}, {-1, 0, api.ErrRange}} {
		if v, e := w.p.Read(c.id, c.at); v != 0 || e != c.want || w.p.Write(c.id, c.at, 1) != c.want {
			t.Errorf("sector %d: %d", i, e)
		}
	}
	w.a.SetBad(1, 1, true)
	if v, e := w.p.Read(1, 5); v != 0 || e != api.ErrBad {
		t.Error("the data device's error")
	}
}

// P28.3
func TestWrite(t *testing.T) {
	w := newWorld(t, 8, 3, 20)
	block.WriteAll(w.data, 0, slices.Repeat([]uint64{99}, 24))
	w.p.Create(1)
	w.is(w.p.Write(1, 4, 5), api.OK, "Write")
	for at, want := range []uint64{0, 0, 0, 0, 5, 0} {
		w.read(1, at, want)
	}
	if w.p.Meta().FreeData() != 7 {
		t.Error("one data block is used")
	}
	w.p.Write(1, 3, 6)
	if w.p.Meta().FreeData() != 7 {
		t.Error("a block is written in place")
	}
	w.p.Snap(2, 1)
	w.p.Write(1, 5, 7)
	for at, want := range []uint64{6, 5, 7} {
		w.read(1, 3+at, want)
	}
	for at, want := range []uint64{6, 5, 0} {
		w.read(2, 3+at, want)
	}
	if w.p.Meta().FreeData() != 6 {
		t.Error("a shared block is copied")
	}
	w.a.SetBad(1, 1, true) // the origin's word at 4 in the first data block
	if w.p.Write(2, 3, 1) != api.OK {
		t.Error("the snapshot has the block alone")
	}
	w.p.Snap(3, 2)
	w.is(w.p.Write(2, 3, 1), api.ErrBad, "an error while words are copied")
	if w.p.Meta().FreeData() != 6 {
		t.Error("the data block is released")
	}
}

func TestNoSpace(t *testing.T) {
	w := newWorld(t, 2, 2, 20)
	w.p.Create(1)
	w.p.Create(2)
	w.p.Write(1, 0, 1)
	w.p.Write(2, 0, 2)
	w.is(w.p.Write(1, 2, 3), api.ErrSpace, "a third block")
	w.is(w.p.Discard(2, 0), api.OK, "Discard")
	seq := w.p.Meta().Seq()
	w.is(w.p.Write(1, 2, 3), api.OK, "a third block behind Discard")
	if w.p.Meta().Seq() != seq+1 {
		t.Error("a Commit makes the room")
	}
	w.read(1, 2, 3)
	w.read(2, 0, 0)
	w.is(w.p.Write(1, 0, 4), api.OK, "a block that is mapped")
	// Without free metadata blocks.
	w = newWorld(t, 64, 1, 0)
	w.p.Create(1)
	e := api.OK
	for at := 0; e == api.OK && at < 64; at++ {
		e = w.p.Write(1, at*9, 1)
	}
	if e == api.OK {
		t.Skip("the metadata suffices")
	}
	w.is(e, api.ErrRoom, "no metadata blocks")
	w.a.SetMissing(1, true)
	w.is(w.p.Write(1, 9999, 1), api.ErrMissing, "the error of the commit")
}

// P28.4
func TestDiscard(t *testing.T) {
	w := newWorld(t, 8, 2, 20)
	w.p.Create(1)
	w.p.Write(1, 0, 5)
	w.p.Write(1, 1, 6)
	w.p.Snap(2, 1)
	w.is(w.p.Discard(1, 0), api.OK, "Discard")
	w.read(1, 0, 0)
	w.read(1, 1, 0)
	w.read(2, 0, 5)
	for i, c := range []struct {
		id, b int
		want  api.Errno
	}{{1, 0, api.OK}, {1, 77, api.OK}, {1, -1, api.ErrRange}, {1, api.MaxKey + 1, api.ErrRange}, {5, 0, api.ErrDevice}} {
		if e := w.p.Discard(c.id, c.b); e != c.want {
			t.Errorf("Discard %d: %d", i, e)
		}
	}
	w.is(w.p.Create(1), api.ErrUse, "Create")
	w.is(w.p.Snap(3, 9), api.ErrDevice, "Snap")
	w.is(w.p.Delete(9), api.ErrDevice, "Delete")
	w.is(w.p.Delete(2), api.OK, "Delete")
	if _, e := w.p.Read(2, 0); e != api.ErrDevice {
		t.Error("Read of a deleted device")
	}
}

func TestCommitForRoom(t *testing.T) {
	w := newWorld(t, 64, 1, 0)
	w.p.Create(1)
	for w.p.Meta().FreeMeta() >= api.MetaReserve {
		w.is(w.p.Meta().Create(100+w.p.Meta().FreeMeta()), api.OK, "Create")
		w.is(w.p.Meta().Delete(100+w.p.Meta().FreeMeta()+1), api.OK, "Delete")
		d, _ := w.p.Meta().Alloc()
		w.p.Meta().Map(1, 5*d, d)
		if w.p.Meta().FreeMeta() >= api.MetaReserve && d == 63 {
			t.Skip("there is room for all")
		}
	}
	seq := w.p.Meta().Seq()
	w.p.Create(50)
	if w.p.Meta().Seq() != seq+1 {
		t.Error("Create behind a commit")
	}
}

// P28.5
func TestCommit(t *testing.T) {
	w := newWorld(t, 8, 2, 20)
	w.p.Create(1)
	w.p.Write(1, 0, 5)
	w.a.SetMissing(1, true)
	w.is(w.p.Commit(), api.ErrMissing, "the data device's error")
	if w.p.Meta().Seq() != 0 {
		t.Error("the metadata is committed all the same")
	}
	w.a.SetMissing(1, false)
	w.is(w.p.Commit(), api.OK, "Commit")
	if w.p.Meta().Seq() != 1 || w.a.Unflushed() != 0 {
		t.Error("Commit")
	}
}

const sectors = 10

// history is what the sectors of a device may read behind a power failure; the last one is what they read now.
type history [sectors][]uint64

func (h *history) flush() {
	for at, l := range h {
		h[at] = l[len(l)-1:]
	}
}

// P28.6
func TestSound(t *testing.T) {
	for seed := range 400 {
		r := rand.New(rand.NewSource(int64(seed)))
		w := newWorld(t, 12, 1+r.Intn(3), 30)
		now, gone := map[int]*history{}, map[int]*history{}
		sure := map[int]bool{}
		next, id := uint64(1), 1
		for range 4 {
			w.a.Fuse(1 + r.Intn(300))
			for step := range 40 {
				if w.a.Down() {
					break
				}
				ids := w.p.Meta().Devices()
				if step == 0 || len(ids) == 0 {
					if w.p.Create(id) == api.OK {
						h := &history{}
						for at := range h {
							h[at] = []uint64{0}
						}
						now[id] = h
						id++
					}
					continue
				}
				x := ids[r.Intn(len(ids))]
				at := r.Intn(sectors)
				switch n := r.Intn(20); {
				case n < 10:
					next++
					e := w.p.Write(x, at, next)
					if e == api.OK || e == api.ErrPower {
						now[x][at] = append(now[x][at], next)
					}
				case n < 12:
					b := at / w.p.chunk
					if e := w.p.Discard(x, b); e == api.OK || e == api.ErrPower {
						for s := range sectors {
							if s/w.p.chunk == b {
								now[x][s] = append(now[x][s], 0)
							}
						}
					}
				case n == 12 && len(ids) < 5:
					if w.p.Snap(id, x) == api.OK {
						h := &history{}
						for s, l := range now[x] {
							h[s] = []uint64{l[len(l)-1]}
						}
						now[id] = h
						id++
					}
				case n == 13 && len(ids) > 1:
					if w.p.Delete(x) == api.OK {
						gone[x] = now[x]
						delete(now, x)
					}
				case n == 14:
					if w.p.Commit() == api.OK {
						clear(gone)
						clear(sure)
						for x, h := range now {
							h.flush()
							sure[x] = true
						}
					}
				default:
					if v, e := w.p.Read(x, at); e == api.OK && v != now[x][at][len(now[x][at])-1] {
						t.Fatalf("seed %d: sector %d of device %d is %d, not %v", seed, at, x, v, now[x][at])
					}
				}
			}
			for range 2 {
				keep := make([]bool, w.a.Unflushed())
				for i := range keep {
					keep[i] = r.Intn(2) == 0
				}
				w.a.Restart(keep)
				w.open()
				found := map[int]*history{}
				for _, x := range w.p.Meta().Devices() {
					h := now[x]
					if h == nil {
						h = gone[x]
					}
					if h == nil {
						t.Fatalf("seed %d: device %d exists", seed, x)
					}
					found[x] = &history{}
					for at, l := range h {
						v, e := w.p.Read(x, at)
						if e != api.OK || !slices.Contains(l, v) {
							t.Fatalf("seed %d: sector %d of device %d is %d, %d, not one of %v", seed, at, x, v, e, l)
						}
						found[x][at] = []uint64{v}
					}
				}
				for x := range sure {
					if found[x] == nil && gone[x] == nil {
						t.Fatalf("seed %d: device %d does not exist", seed, x)
					}
				}
				now, gone, sure = found, map[int]*history{}, map[int]bool{}
				for x := range found {
					sure[x] = true
				}
			}
		}
	}
}
