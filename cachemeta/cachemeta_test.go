package cachemeta

import (
	"math/rand"
	"slices"
	"testing"

	"volumegroup/api"
	"volumegroup/block"
	"volumegroup/checksum"
	"volumegroup/disk"
)

func device(t *testing.T, n int) (*disk.Array, block.Device) {
	t.Helper()
	a, e := disk.New([]int{n})
	if e != api.OK {
		t.Fatal(e)
	}
	x, _ := block.Span(a, 0, 0, n)
	return a, x
}

func opened(t *testing.T, x block.Device) *Meta {
	t.Helper()
	m, e := Open(x)
	if e != api.OK {
		t.Fatalf("Open: %d", e)
	}
	return m
}

// sealed puts the checksum of a word into its bits from at on.
func sealed(w uint64, at int) uint64 {
	return w | uint64(checksum.Short(checksum.Words([]uint64{w})))<<at
}

func head0(slots, chunk, mode, open uint64) uint64 {
	return sealed(slots|chunk<<11|mode<<18|open<<20|0x4343<<37, 21)
}

func slot(block int, dirty bool) api.CacheSlot {
	return api.CacheSlot{Valid: true, Block: block, Dirty: dirty}
}

// P32.1
func TestFormat(t *testing.T) {
	for n, want := range map[int]int{1: 2, 1024: 1025, 0: 0, -1: 0, 1025: 0} {
		if Size(n) != want {
			t.Errorf("Size(%d) is %d", n, Size(n))
		}
	}
	a, x := device(t, 4)
	for i, c := range []struct {
		slots, chunk int
		want         api.Errno
	}{{0, 1, api.ErrRange}, {1025, 1, api.ErrRange}, {9, 0, api.ErrRange}, {9, 65, api.ErrRange}, {4, 1, api.ErrSize}} {
		if e := Format(x, c.slots, c.chunk); e != c.want || a.Writes() > 0 {
			t.Errorf("Format %d: %d", i, e)
		}
	}
	block.WriteAll(x, 0, []uint64{7, 7, 7, 7})
	if Format(x, 2, 64) != api.OK || a.Unflushed() != 0 {
		t.Error("Format")
	}
	if l, _ := a.Image(0); !slices.Equal(l, []uint64{head0(2, 64, 0, 0), 0, 0, 7}) {
		t.Errorf("the words: %x", l)
	}
	if Word(api.CacheSlot{}) != 0 || Word(api.CacheSlot{Block: 5}) != 0 || Word(slot(5, false)) != sealed(5|1<<24, 48) || Word(slot(1<<24+5, true)) != sealed(5|3<<24, 48) || Word(api.CacheSlot{Valid: true, Stamp: 9}) != sealed(1<<24, 48) {
		t.Error("Word")
	}
	a.Fuse(3)
	if Format(x, 2, 64) != api.ErrPower {
		t.Error("the device's error")
	}
}

// P32.2
func TestOpen(t *testing.T) {
	a, x := device(t, 4)
	for i, c := range []struct {
		l    []uint64
		want api.Errno
	}{
		{[]uint64{head0(3, 4, 2, 1), Word(slot(5, true)), 0, Word(slot(0, false))}, api.OK}, {[]uint64{0, 0, 0, 0}, api.ErrForm}, {[]uint64{head0(3, 4, 2, 1) ^ 1, 0, 0, 0}, api.ErrForm}, {[]uint64{head0(3, 4, 2, 1) ^ 1<<22, 0, 0, 0}, api.ErrForm}, {[]uint64{sealed(3|4<<11|0x4344<<37, 21), 0, 0, 0}, api.ErrForm},
		{[]uint64{head0(0, 4, 0, 0), 0, 0, 0}, api.ErrDamage}, {[]uint64{head0(1025, 4, 0, 0), 0, 0, 0}, api.ErrDamage}, {[]uint64{head0(3, 0, 0, 0), 0, 0, 0}, api.ErrDamage}, {[]uint64{head0(3, 65, 0, 0), 0, 0, 0}, api.ErrDamage}, {[]uint64{head0(3, 4, 3, 0), 0, 0, 0}, api.ErrDamage}, {[]uint64{head0(4, 4, 0, 0), 0, 0, 0}, api.ErrDamage},
		{[]uint64{sealed(3|4<<11|0x4343<<37|1<<60, 21), 0, 0, 0}, api.ErrDamage}, {[]uint64{head0(3, 4, 0, 0) | 1<<60, 0, 0, 0}, api.ErrForm},
		{[]uint64{head0(3, 4, 0, 0), Word(slot(5, true)) ^ 1, 0, 0}, api.ErrDamage}, {[]uint64{head0(3, 4, 0, 0), 0, sealed(5, 48), 0}, api.ErrDamage}, {[]uint64{head0(3, 4, 0, 0), 0, 0, sealed(5|1<<24|1<<30, 48)}, api.ErrDamage}, {[]uint64{head0(3, 4, 0, 0), Word(slot(5, true)), 0, Word(slot(5, false))}, api.ErrDamage},
	} {
		a.Load(0, c.l)
		m, e := Open(x)
		if e != c.want || (m == nil) != (e != api.OK) {
			t.Errorf("Open %d: %d, not %d", i, e, c.want)
		}
	}
	a.Load(0, []uint64{head0(3, 4, 2, 1), Word(slot(5, true)), 0, Word(slot(0, false))})
	m := opened(t, x)
	if !slices.Equal(m.Slots(), []api.CacheSlot{slot(5, true), {}, slot(0, false)}) || m.Chunk() != 4 || m.Mode() != 2 || m.Clean() {
		t.Error("what was read")
	}
	m.Slots()[0].Block = 9
	if m.Slots()[0].Block != 5 {
		t.Error("Slots shares memory")
	}
	a.SetBad(0, 2, true)
	if _, e := Open(x); e != api.ErrBad {
		t.Error("the device's error")
	}
	x.Write(3, 0)
	a.SetMissing(0, true)
	if _, e := Open(x); e != api.ErrMissing {
		t.Error("Open flushes")
	}
	if _, e := Open(block.Zero(0)); e != api.ErrRange {
		t.Error("no words")
	}
}

// P32.3, P32.4
func TestPutBeginEnd(t *testing.T) {
	a, x := device(t, 4)
	Format(x, 3, 4)
	m := opened(t, x)
	if !m.Clean() || m.Mode() != 0 {
		t.Error("ahead of Begin")
	}
	for i, c := range []struct {
		k    int
		s    api.CacheSlot
		want api.Errno
	}{{-1, slot(1, true), api.ErrRange}, {3, slot(1, true), api.ErrRange}, {0, slot(-1, true), api.ErrRange}, {0, api.CacheSlot{Block: api.MaxKey + 1}, api.ErrRange}, {0, api.CacheSlot{Block: 1}, api.ErrForm}, {0, api.CacheSlot{Dirty: true}, api.ErrForm}, {0, slot(api.MaxKey, true), api.OK}, {1, api.CacheSlot{Valid: true, Block: 2, Stamp: 77}, api.OK}, {2, api.CacheSlot{Stamp: 5}, api.OK}} {
		if e := m.Put(c.k, c.s); e != c.want {
			t.Errorf("Put %d: %d", i, e)
		}
	}
	want := []api.CacheSlot{slot(api.MaxKey, true), slot(2, false), {}}
	if !slices.Equal(m.Slots(), want) || a.Unflushed() != 3 || m.Flush() != api.OK || a.Unflushed() != 0 {
		t.Error("Put and Flush")
	}
	if m.Begin(0) != api.ErrRange || m.Begin(3) != api.ErrRange || m.Begin(api.WriteBack) != api.OK || m.Clean() || m.Mode() != api.WriteBack || a.Unflushed() != 0 {
		t.Error("Begin")
	}
	if w, _ := x.Read(0); w != head0(3, 4, 2, 1) {
		t.Error("the word 0 behind Begin")
	}
	a.Restart(nil)
	if n := opened(t, x); n.Clean() || n.Mode() != api.WriteBack || !slices.Equal(n.Slots(), want) {
		t.Error("a power failure behind Begin")
	}
	m.Put(0, api.CacheSlot{})
	if m.End() != api.OK || !m.Clean() || a.Unflushed() != 0 {
		t.Error("End")
	}
	if w, _ := x.Read(0); w != head0(3, 4, 2, 0) {
		t.Error("the word 0 behind End")
	}
	a.SetMissing(0, true)
	if m.Put(1, api.CacheSlot{}) != api.ErrMissing || !m.Slots()[1].Valid || m.Begin(api.WriteThrough) != api.ErrMissing || m.End() != api.ErrMissing || m.Flush() != api.ErrMissing {
		t.Error("the device's errors")
	}
}

// P32.5
func TestPowerFailures(t *testing.T) {
	r := rand.New(rand.NewSource(1))
	for range 300 {
		a, x := device(t, 4)
		Format(x, 3, 4)
		m := opened(t, x)
		m.Begin(api.WriteBack)
		may := [3][]api.CacheSlot{{{}}, {{}}, {{}}}
		for n := range 20 {
			k := r.Intn(3)
			s := []api.CacheSlot{{}, slot(3*n+k, false), slot(3*n+k, true)}[r.Intn(3)]
			if r.Intn(4) == 0 {
				m.Flush()
				for i, l := range may {
					may[i] = l[len(l)-1:]
				}
			} else if m.Put(k, s) == api.OK {
				may[k] = append(may[k], s)
			}
		}
		keep := make([]bool, a.Unflushed())
		for i := range keep {
			keep[i] = r.Intn(2) == 0
		}
		a.Restart(keep)
		for k, s := range opened(t, x).Slots() {
			if !slices.Contains(may[k], s) {
				t.Fatalf("slot %d is %v, not one of %v", k, s, may[k])
			}
		}
	}
}
