package mirror

import (
	"math"
	"slices"
	"testing"

	"volumegroup/api"
	"volumegroup/block"
	"volumegroup/disk"
	"volumegroup/regionlog"
)

// opened is a mirror of n legs of 8 sectors with regions of 4, and with a log behind them if asked for.
func opened(t *testing.T, n int, log bool, stale ...int) (*disk.Array, *Mirror) {
	t.Helper()
	a, e := disk.New(slices.Repeat([]int{8}, n+1))
	if e != api.OK {
		t.Fatal(e)
	}
	return a, reopened(t, a, n, log, true, stale...)
}

func reopened(t *testing.T, a *disk.Array, n int, log, format bool, stale ...int) *Mirror {
	t.Helper()
	var legs []block.Device
	for d := range n {
		x, _ := block.Span(a, d, 0, 8)
		legs = append(legs, x)
	}
	var x block.Device
	if log {
		x, _ = block.Span(a, n, 0, 8)
		if format {
			regionlog.Format(x, 2)
		}
	}
	m, e := Open(legs, stale, x, 4)
	if e != api.OK {
		t.Fatalf("Open: %d", e)
	}
	return m
}

func reads(t *testing.T, m *Mirror, at int, want uint64) {
	t.Helper()
	if w, e := m.Read(at); w != want || e != api.OK {
		t.Errorf("sector %d is %d, %d, not %d", at, w, e, want)
	}
}

func failedAre(t *testing.T, m *Mirror, want ...int) {
	t.Helper()
	if !slices.Equal(m.Failed(), want) {
		t.Errorf("Failed is %v, not %v", m.Failed(), want)
	}
}

// has checks a sector of a disk.
func has(t *testing.T, a *disk.Array, d, at int, want uint64) {
	t.Helper()
	if l, _ := a.Image(d); l[at] != want {
		t.Errorf("sector %d of disk %d is %d, not %d", at, d, l[at], want)
	}
}

// P21.1
func TestOpen(t *testing.T) {
	for _, c := range [][3]int{{8, 4, 2}, {9, 4, 3}, {1, 1000, 1}, {0, 4, 0}, {5, 0, 0}, {-5, 2, 0}, {5, -2, 0}, {math.MaxInt, 1, math.MaxInt}} {
		if n := Regions(c[0], c[1]); n != c[2] {
			t.Errorf("Regions(%d, %d) is %d", c[0], c[1], n)
		}
	}
	a, _ := disk.New([]int{8, 9, 8, 1})
	var l []block.Device
	for d := range 4 {
		x, _ := block.Span(a, d, 0, a.Size(d))
		l = append(l, x)
	}
	log := l[2]
	regionlog.Format(log, 2)
	for i, c := range []struct {
		legs   []block.Device
		stale  []int
		log    block.Device
		region int
		want   api.Errno
	}{
		{l[:1], nil, nil, 4, api.ErrRange}, {nil, nil, nil, 4, api.ErrRange}, {slices.Repeat(l, 2)[:7], nil, nil, 4, api.ErrRange}, {l[:2], nil, nil, 0, api.ErrRange}, {l[:2], nil, nil, 65537, api.ErrRange},
		{l[:2], []int{3}, nil, 4, api.ErrRange}, {l[:2], []int{-1}, nil, 4, api.ErrRange}, {l[:2], []int{0, 1, 5}, nil, 4, api.ErrRange}, {l[:2], []int{0, 1}, log, 3, api.ErrStale}, {l[:2], []int{2}, nil, 4, api.OK},
		{l[:2], nil, log, 3, api.ErrLeg}, {l[:2], nil, l[3], 4, api.ErrLeg}, {l[:2], nil, log, 4, api.OK}, {l[:2], []int{2}, l[3], 4, api.OK}, {l[:2], []int{1, 1}, log, 4, api.OK},
	} {
		m, e := Open(c.legs, c.stale, c.log, c.region)
		if e != c.want || (m == nil) != (e != api.OK) {
			t.Errorf("Open %d: %d", i, e)
		}
	}
	m, _ := Open(l[:2], nil, nil, 4)
	if m.Size() != 8 || !slices.Equal(m.Dirty(), []int{0, 1}) || len(m.Stale()) > 0 {
		t.Error("a mirror without a log")
	}
	log.Write(1, 2)
	m, _ = Open(l[:2], nil, log, 4)
	if !slices.Equal(m.Dirty(), []int{1}) {
		t.Error("a mirror with a log")
	}
	m, _ = Open(l[:2], []int{2, 0}, log, 4)
	if !slices.Equal(m.Dirty(), []int{0, 1}) || !slices.Equal(m.Stale(), []int{0, 2}) {
		t.Error("a stale log")
	}
	a.Fuse(1)
	a.Write(0, 0, 1)
	if _, e := Open(l[:2], nil, log, 4); e != api.ErrPower {
		t.Error("the power")
	}
}

// P21.2
func TestReadClean(t *testing.T) {
	a, m := opened(t, 3, true)
	for d := range 3 {
		a.Write(d, 0, uint64(d+1))
	}
	reads(t, m, 0, 1)
	has(t, a, 1, 0, 2)
	for _, at := range []int{-1, 8, math.MaxInt} {
		if w, e := m.Read(at); w != 0 || e != api.ErrRange || m.Write(at, 1) != api.ErrRange {
			t.Errorf("sector %d", at)
		}
	}
	a.SetBad(0, 0, true)
	a.SetBad(1, 0, true)
	reads(t, m, 0, 3)
	failedAre(t, m)
	has(t, a, 0, 0, 3)
	has(t, a, 1, 0, 3)
	for d := range 3 {
		a.SetBad(d, 1, true)
	}
	if w, e := m.Read(1); w != 0 || e != api.ErrLeg {
		t.Error("all legs are bad")
	}
	failedAre(t, m, 0, 1, 2)
	a, m = opened(t, 3, true)
	a.SetMissing(0, true)
	if w, e := m.Read(0); w != 0 || e != api.ErrLeg {
		t.Error("a missing leg")
	}
	failedAre(t, m, 0)
	if _, e := m.Read(9); e != api.ErrRange {
		t.Error("range ahead of failed legs")
	}
	m.Drop(0)
	reads(t, m, 0, 0)
	a, m = opened(t, 2, true)
	a.SetBad(0, 0, true)
	a.SetMissing(1, true)
	if _, e := m.Read(0); e != api.ErrLeg {
		t.Error("a bad leg and a missing one")
	}
	failedAre(t, m, 0, 1)
}

func TestReadDirty(t *testing.T) {
	a, m := opened(t, 3, false)
	for d := range 3 {
		a.Write(d, 0, uint64(d+1))
		a.Write(d, 1, 9)
		a.Flush(d)
	}
	n := a.Writes()
	reads(t, m, 0, 1)
	if a.Writes() != n+2 || a.Unflushed() != 0 {
		t.Error("the other legs get the word, and are flushed")
	}
	has(t, a, 2, 0, 1)
	n = a.Writes()
	reads(t, m, 1, 9)
	reads(t, m, 0, 1)
	if a.Writes() != n {
		t.Error("legs that have the word are not written")
	}
	a.Write(1, 2, 5)
	a.Flush(1)
	a.SetBad(0, 2, true)
	reads(t, m, 2, 5)
	has(t, a, 0, 2, 5)
	has(t, a, 2, 2, 5)
	failedAre(t, m)
	a.SetMissing(1, true)
	if w, e := m.Read(0); w != 0 || e != api.ErrLeg {
		t.Error("a leg that cannot be compared")
	}
	failedAre(t, m, 1)
	for i, e := range []api.Errno{m.Write(0, 1), m.Flush(), m.Accept(0)} {
		if e != api.ErrLeg {
			t.Errorf("request %d with a failed leg: %d", i, e)
		}
	}
	if _, e := m.Resync(1); e != api.ErrLeg {
		t.Error("Resync with a failed leg")
	}
	if _, e := m.Fill(0, 1); e != api.ErrLeg {
		t.Error("Fill with a failed leg")
	}
	if _, e := m.Resync(-1); e != api.ErrRange {
		t.Error("range ahead of failed legs")
	}
	if _, e := m.Fill(9, 1); e != api.ErrRange || m.Accept(9) != api.ErrRange {
		t.Error("range ahead of failed legs")
	}
}

// P21.3
func TestWriteFlush(t *testing.T) {
	a, m := opened(t, 2, true)
	if m.Write(5, 7) != api.OK {
		t.Error("Write")
	}
	has(t, a, 0, 5, 7)
	has(t, a, 1, 5, 7)
	has(t, a, 2, 1, 2)
	if a.Unflushed() != 2 || m.Flush() != api.OK || a.Unflushed() != 1 {
		t.Error("the mark is durable, the legs are flushed, and the mark is cleared")
	}
	has(t, a, 2, 1, 0)
	a.SetMissing(0, true)
	if m.Write(0, 3) != api.ErrLeg {
		t.Error("a missing leg")
	}
	failedAre(t, m, 0)
	has(t, a, 1, 0, 3)
	m.Drop(0)
	a.SetMissing(1, true)
	if m.Flush() != api.ErrLeg {
		t.Error("Flush of a missing leg")
	}
	failedAre(t, m, 1)
	has(t, a, 2, 1, 1)
	a, m = opened(t, 2, true)
	a.SetMissing(2, true)
	n := a.Writes()
	if m.Write(0, 1) != api.ErrLeg || a.Writes() != n {
		t.Error("a missing log")
	}
	failedAre(t, m, 2)
	if m.Drop(2) != api.OK || m.Write(0, 1) != api.OK || m.Flush() != api.OK {
		t.Error("a mirror whose log was dropped")
	}
	a, m = opened(t, 2, true)
	m.Write(0, 1)
	a.SetMissing(2, true)
	if m.Flush() != api.ErrLeg || a.Unflushed() != 0 {
		t.Error("an error of clearing")
	}
	failedAre(t, m, 2)
	a, m = opened(t, 2, true)
	a.Fuse(2)
	if m.Write(0, 1) != api.ErrPower || len(m.Failed()) > 0 || m.Flush() != api.ErrPower {
		t.Error("the power")
	}
}

func TestFlushKeepsDirtyRegions(t *testing.T) {
	a, m := opened(t, 2, true)
	m.Write(1, 4)
	a.Restart([]bool{true, false})
	m = reopened(t, a, 2, true, false)
	if !slices.Equal(m.Dirty(), []int{0}) {
		t.Errorf("Dirty is %v", m.Dirty())
	}
	m.Write(6, 9)
	m.Flush()
	has(t, a, 2, 1, 1)
	m.Resync(8)
	m.Flush()
	has(t, a, 2, 1, 0)
	has(t, a, 1, 1, 4)
}

// P21.4
func TestDrop(t *testing.T) {
	_, m := opened(t, 2, true)
	if m.Drop(3) != api.ErrRange || m.Drop(-1) != api.ErrRange {
		t.Error("Drop of no leg")
	}
	if m.Drop(1) != api.OK || m.Drop(0) != api.ErrStale || m.Drop(1) != api.OK || m.Drop(2) != api.OK || m.Drop(2) != api.OK || !slices.Equal(m.Stale(), []int{1, 2}) {
		t.Error("Drop")
	}
	if len(m.Dirty()) != 0 {
		t.Error("the regions stay clean")
	}
	_, m = opened(t, 2, false)
	if m.Drop(2) != api.ErrRange {
		t.Error("Drop of a log that does not exist")
	}
	a, m := opened(t, 2, false, 1)
	m.Fill(1, 8)
	m.Drop(1)
	if n, e := m.Fill(1, 3); n != 3 || e != api.OK {
		t.Error("Fill behind Drop")
	}
	a.SetMissing(0, true)
	m.Write(0, 1)
	if m.Drop(0) != api.ErrStale {
		t.Error("Drop of the only good leg")
	}
}

// P21.5
func TestResync(t *testing.T) {
	a, m := opened(t, 3, false)
	for at := range 8 {
		a.Write(0, at, uint64(at+1))
	}
	a.Flush(0)
	if n, e := m.Resync(0); n != 8 || e != api.OK {
		t.Error("Resync(0)")
	}
	if n, e := m.Resync(3); n != 5 || e != api.OK || !slices.Equal(m.Dirty(), []int{0, 1}) || a.Unflushed() != 6 {
		t.Error("Resync(3)")
	}
	has(t, a, 2, 2, 3)
	has(t, a, 2, 3, 0)
	if n, e := m.Resync(1); n != 4 || e != api.OK || !slices.Equal(m.Dirty(), []int{1}) || a.Unflushed() != 0 {
		t.Error("the end of a region")
	}
	a.SetBad(0, 4, true)
	a.Write(1, 4, 50)
	if n, e := m.Resync(1); n != 3 || e != api.OK {
		t.Error("a bad sector of the first leg")
	}
	has(t, a, 0, 4, 50)
	has(t, a, 2, 4, 50)
	a.SetMissing(2, true)
	if n, e := m.Resync(9); n != 0 || e != api.ErrLeg {
		t.Error("a missing leg")
	}
	failedAre(t, m, 2)
	m.Drop(2)
	if n, e := m.Resync(9); n != 0 || e != api.OK || len(m.Dirty()) != 0 || a.Unflushed() > 1 {
		t.Error("Resync of all")
	}
	if n, e := m.Resync(9); n != 0 || e != api.OK {
		t.Error("nothing is left")
	}
	if _, e := m.Resync(-1); e != api.ErrRange {
		t.Error("Resync(-1)")
	}
	a, m = opened(t, 2, false)
	for d := range 2 {
		a.SetBad(d, 0, true)
	}
	if _, e := m.Resync(1); e != api.ErrLeg {
		t.Error("all legs are bad")
	}
	failedAre(t, m, 0, 1)
}

// A sector that Resync has copied, but not flushed, is durable when a Read has told it.
func TestReadBehindResync(t *testing.T) {
	a, m := opened(t, 2, false)
	a.Write(0, 1, 5)
	a.Flush(0)
	m.Resync(2)
	reads(t, m, 1, 5)
	a.Restart(nil)
	has(t, a, 1, 1, 5)
}

// So is one that Resync was copying when a leg failed.
func TestReadBehindFailedResync(t *testing.T) {
	a, m := opened(t, 3, false)
	a.Write(0, 0, 5)
	a.Flush(0)
	a.SetMissing(1, true)
	if _, e := m.Resync(1); e != api.ErrLeg {
		t.Errorf("Resync with a missing leg: %d", e)
	}
	m.Drop(1)
	m.Drop(0)
	reads(t, m, 0, 5)
	a.Restart(nil)
	has(t, a, 2, 0, 5)
}

// P21.6
func TestFillAccept(t *testing.T) {
	a, m := opened(t, 2, true, 1)
	m.Resync(8)
	for at := range 8 {
		m.Write(at, uint64(at+1))
	}
	has(t, a, 1, 0, 0)
	if n, e := m.Fill(1, 3); n != 3 || e != api.OK || m.Accept(1) != api.ErrState {
		t.Error("Fill(3)")
	}
	m.Write(2, 20)
	m.Write(3, 21)
	has(t, a, 1, 2, 20)
	has(t, a, 1, 3, 0)
	for _, c := range []struct {
		leg, n int
		want   api.Errno
	}{{3, 1, api.ErrRange}, {-1, 1, api.ErrRange}, {1, -1, api.ErrRange}, {2, 1, api.ErrState}, {0, 1, api.ErrState}, {2, -1, api.ErrRange}} {
		if n, e := m.Fill(c.leg, c.n); n != 0 || e != c.want {
			t.Errorf("Fill(%d, %d): %d", c.leg, c.n, e)
		}
	}
	for leg, want := range map[int]api.Errno{3: api.ErrRange, -1: api.ErrRange, 2: api.ErrState, 0: api.ErrState} {
		if e := m.Accept(leg); e != want {
			t.Errorf("Accept(%d): %d", leg, e)
		}
	}
	a.SetMissing(1, true)
	if m.Write(2, 22) != api.OK || len(m.Failed()) != 0 {
		t.Error("an error of the stale leg in Write")
	}
	a.SetMissing(1, false)
	if n, e := m.Fill(1, 1); n != 1 || e != api.OK {
		t.Error("Fill begins anew")
	}
	a.SetMissing(1, true)
	if n, e := m.Fill(1, 1); n != 0 || e != api.OK {
		t.Error("an error of the stale leg in Fill")
	}
	a.SetMissing(1, false)
	if n, e := m.Fill(1, 99); n != 8 || e != api.OK {
		t.Error("Fill of all")
	}
	a.SetMissing(1, true)
	if m.Accept(1) != api.ErrState {
		t.Error("an error of the stale leg in Accept")
	}
	a.SetMissing(1, false)
	if m.Accept(1) != api.ErrState {
		t.Error("Fill begins anew behind an error of Accept")
	}
	m.Fill(1, 8)
	if m.Accept(1) != api.OK || len(m.Stale()) != 0 || a.Unflushed() != 0 {
		t.Error("Accept flushes the legs")
	}
	a.SetMissing(0, true)
	m.Flush()
	m.Drop(0)
	for at, want := range []uint64{1, 2, 22, 21, 5, 6, 7, 8} {
		reads(t, m, at, want)
	}
}

func TestFillDirty(t *testing.T) {
	a, m := opened(t, 3, false, 2)
	a.Write(0, 0, 6)
	a.Flush(0)
	if n, e := m.Fill(2, 8); n != 8 || e != api.OK {
		t.Error("Fill of dirty regions")
	}
	has(t, a, 1, 0, 6)
	has(t, a, 2, 0, 6)
	unflushed := a.Unflushed()
	if m.Accept(2) != api.ErrState || a.Unflushed() != unflushed {
		t.Error("Accept with dirty regions, without a flush")
	}
	// The sector is read from leg 1 now, and filled legs get it.
	a.Write(1, 1, 8)
	a.SetBad(0, 1, true)
	reads(t, m, 1, 8)
	has(t, a, 2, 1, 8)
	m.Resync(8)
	if m.Accept(2) != api.OK {
		t.Error("Accept behind Resync")
	}
	a, m = opened(t, 3, false, 2)
	m.Resync(8)
	m.Fill(2, 8)
	a.SetMissing(1, true)
	if m.Accept(2) != api.ErrLeg {
		t.Error("an error of a good leg in Accept")
	}
	failedAre(t, m, 1)
	a, m = opened(t, 2, false, 1)
	a.SetMissing(0, true)
	if n, e := m.Fill(1, 8); n != 0 || e != api.ErrLeg {
		t.Error("an error of a good leg in Fill")
	}
}
