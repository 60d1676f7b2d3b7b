package parityvol

import (
	"math"
	"slices"
	"testing"

	"volumegroup/api"
	"volumegroup/block"
	"volumegroup/disk"
)

// legs is n legs of so many sectors, each on a disk of its own.
func legs(t *testing.T, n, size int) (*disk.Array, []block.Device) {
	t.Helper()
	a, e := disk.New(slices.Repeat([]int{size}, n))
	if e != api.OK {
		t.Fatal(e)
	}
	var l []block.Device
	for d := range n {
		x, _ := block.Span(a, d, 0, size)
		l = append(l, x)
	}
	return a, l
}

// opened is a volume of three legs with chunks of 2 sectors and so many rows.
func opened(t *testing.T, rows int, stale ...int) (*disk.Array, *Volume) {
	t.Helper()
	a, l := legs(t, 3, Head+2*rows)
	if e := Format(l, 2); e != api.OK {
		t.Fatal(e)
	}
	v, e := Open(l, stale, 2)
	if e != api.OK {
		t.Fatal(e)
	}
	return a, v
}

func reads(t *testing.T, v *Volume, at int, want uint64) {
	t.Helper()
	if w, e := v.Read(at); w != want || e != api.OK {
		t.Errorf("sector %d is %d, %d, not %d", at, w, e, want)
	}
}

func writes(t *testing.T, v *Volume, at int, w uint64) {
	t.Helper()
	if e := v.Write(at, w); e != api.OK {
		t.Errorf("Write(%d): %d", at, e)
	}
}

// P19.1
func TestFormatOpen(t *testing.T) {
	a, l := legs(t, 3, 20)
	for _, x := range l {
		block.WriteAll(x, 0, slices.Repeat([]uint64{99}, 20))
	}
	if e := Format(l, 2); e != api.OK || a.Unflushed() != 0 {
		t.Error("Format")
	}
	v, e := Open(l, nil, 2)
	if e != api.OK || v.Size() != 8 {
		t.Fatal("Open")
	}
	for at := range 8 {
		reads(t, v, at, 0)
	}
	_, short := legs(t, 3, 17)
	short[0] = l[0]
	for i, c := range []struct {
		legs  []block.Device
		stale []int
		chunk int
		want  api.Errno
	}{
		{l[:2], nil, 2, api.ErrRange}, {slices.Repeat(l, 3)[:7], nil, 2, api.ErrRange}, {nil, nil, 2, api.ErrRange}, {l, nil, 0, api.ErrRange}, {l, nil, 65537, api.ErrRange}, {l, nil, -1, api.ErrRange},
		{l, nil, 5, api.ErrSize}, {short, nil, 2, api.ErrSize}, {short, []int{9}, 2, api.ErrSize}, {l, []int{3}, 2, api.ErrRange}, {l, []int{-1}, 2, api.ErrRange}, {l, []int{0, 1, 5}, 2, api.ErrRange}, {l, []int{0, 1}, 2, api.ErrStale}, {l, []int{1, 1}, 2, api.OK}, {l, []int{2}, 2, api.OK},
	} {
		v, e := Open(c.legs, c.stale, c.chunk)
		if e != c.want || (v == nil) != (e != api.OK) {
			t.Errorf("Open %d: %d", i, e)
		}
		if len(c.stale) == 0 && c.want != api.OK && Format(c.legs, c.chunk) != c.want {
			t.Errorf("Format %d", i)
		}
	}
	a.SetMissing(1, true)
	if Format(l, 2) != api.ErrMissing {
		t.Error("Format of a missing leg")
	}
	if v, e := Open(l, nil, 2); v != nil || e != api.ErrLeg {
		t.Error("Open of a missing leg")
	}
	if _, e := Open(l, []int{1}, 2); e != api.OK {
		t.Error("Open of a missing leg that is stale")
	}
	a.Fuse(1)
	a.Write(0, 0, 1)
	if v, e := Open(l, nil, 2); v != nil || e != api.ErrPower {
		t.Error("Open without power")
	}
	if Format(l, 2) != api.ErrPower {
		t.Error("Format without power")
	}
}

// P19.2
func TestRead(t *testing.T) {
	a, v := opened(t, 2)
	for at := range 8 {
		writes(t, v, at, uint64(at+1))
	}
	for _, at := range []int{-1, 8, math.MaxInt, math.MinInt} {
		if w, e := v.Read(at); w != 0 || e != api.ErrRange {
			t.Errorf("Read(%d)", at)
		}
	}
	// Sector 0 is the first one of leg 0, sector 2 that of leg 1, and the parity that of leg 2.
	a.SetBad(0, Head, true)
	n := a.Writes()
	reads(t, v, 0, 1)
	if a.Writes() != n+1 || len(v.Failed()) > 0 {
		t.Error("a bad sector is written anew")
	}
	if w, e := a.Read(0, Head); w != 1 || e != api.OK {
		t.Error("the word of a bad sector")
	}
	a.SetBad(0, Head, true)
	a.SetBad(1, Head, true)
	if w, e := v.Read(0); w != 0 || e != api.ErrLeg || !slices.Equal(v.Failed(), []int{0}) {
		t.Errorf("two bad sectors: %d, %v", e, v.Failed())
	}
	if v.Drop(0) != api.OK {
		t.Error("Drop")
	}
	if _, e := v.Read(0); e != api.ErrLeg || !slices.Equal(v.Failed(), []int{1}) {
		t.Error("a bad sector beside a stale leg")
	}
	a, v = opened(t, 2)
	writes(t, v, 0, 7)
	writes(t, v, 2, 8)
	a.SetMissing(0, true)
	if _, e := v.Read(0); e != api.ErrLeg || !slices.Equal(v.Failed(), []int{0}) {
		t.Error("a missing leg")
	}
	if _, e := v.Read(9); e != api.ErrRange {
		t.Error("range ahead of failed legs")
	}
	v.Drop(0)
	reads(t, v, 0, 7)
	reads(t, v, 2, 8)
	a.SetMissing(2, true)
	reads(t, v, 2, 8)
	if _, e := v.Read(0); e != api.ErrLeg || !slices.Equal(v.Failed(), []int{2}) {
		t.Error("a missing leg beside a stale one")
	}
	a, v = opened(t, 2)
	a.Fuse(1)
	v.Write(0, 1)
	if _, e := v.Read(0); e != api.ErrPower || len(v.Failed()) > 0 || v.Flush() != api.ErrPower || v.Write(0, 1) != api.ErrPower {
		t.Error("the power")
	}
}

// P19.3
func TestWriteFlush(t *testing.T) {
	a, v := opened(t, 2)
	writes(t, v, 0, 5)
	writes(t, v, 2, 6)
	if w, _ := a.Read(2, Head); w != 5^6 {
		t.Error("the parity")
	}
	if v.Write(8, 1) != api.ErrRange || v.Write(-1, 1) != api.ErrRange {
		t.Error("sectors that do not exist")
	}
	if v.Flush() != api.OK || a.Unflushed() != 0 {
		t.Error("Flush")
	}
	// A bad sector that has to be read is rebuilt.
	a.SetBad(0, Head, true)
	writes(t, v, 0, 9)
	a.SetBad(2, Head, true)
	writes(t, v, 2, 3)
	if w, e := a.Read(2, Head); w != 9^3 || e != api.OK {
		t.Error("the parity behind bad sectors")
	}
	a.SetMissing(1, true)
	if v.Write(0, 1) != api.ErrLeg || !slices.Equal(v.Failed(), []int{1}) {
		t.Error("Write with a missing leg")
	}
	for i, e := range []api.Errno{v.Write(0, 1), v.Flush(), v.Accept()} {
		if e != api.ErrLeg {
			t.Errorf("request %d with a failed leg: %d", i, e)
		}
	}
	if _, e := v.Fill(1); e != api.ErrLeg {
		t.Error("Fill with a failed leg")
	}
	if _, e := v.Scrub(0, 1); e != api.ErrLeg {
		t.Error("Scrub with a failed leg")
	}
	if _, e := v.Fill(-1); e != api.ErrRange {
		t.Error("Fill of less than nothing")
	}
	if _, e := v.Scrub(-1, 1); e != api.ErrRange || v.Write(99, 1) != api.ErrRange {
		t.Error("range ahead of failed legs")
	}
	v.Drop(1)
	writes(t, v, 0, 20)
	writes(t, v, 2, 21)
	reads(t, v, 0, 20)
	reads(t, v, 2, 21)
	a.SetMissing(2, true)
	if v.Flush() != api.ErrLeg || !slices.Equal(v.Failed(), []int{2}) {
		t.Error("Flush with a missing leg")
	}
}

// P19.4
func TestDrop(t *testing.T) {
	a, v := opened(t, 2)
	if v.Drop(3) != api.ErrRange || v.Drop(-1) != api.ErrRange || len(v.Stale()) > 0 {
		t.Error("Drop of no leg")
	}
	if v.Drop(1) != api.OK || !slices.Equal(v.Stale(), []int{1}) || v.Drop(0) != api.ErrStale || v.Drop(9) != api.ErrRange {
		t.Error("Drop")
	}
	v.Fill(9)
	if !v.Filled() || v.Drop(1) != api.OK || v.Filled() {
		t.Error("Drop of the stale leg")
	}
	a, v = opened(t, 2)
	a.SetMissing(0, true)
	v.Flush()
	a.SetMissing(0, false)
	if v.Write(0, 1) != api.ErrLeg || v.Drop(0) != api.OK || len(v.Failed()) > 0 {
		t.Error("Drop of a failed leg")
	}
	writes(t, v, 0, 1)
}

// P19.5
func TestFill(t *testing.T) {
	a, v := opened(t, 3, 1)
	for at := range 12 {
		writes(t, v, at, uint64(at+1))
	}
	for range 2 {
		if n, e := v.Fill(0); n != 0 || e != api.OK {
			t.Error("Fill(0)")
		}
	}
	if n, e := v.Fill(2); n != 2 || e != api.OK || v.Filled() || v.Accept() != api.ErrState {
		t.Error("Fill(2)")
	}
	writes(t, v, 2, 50) // row 0, on leg 1
	writes(t, v, 4, 51) // row 1, whose parity is on leg 1
	writes(t, v, 10, 52)
	if w, _ := a.Read(1, Head); w != 50 {
		t.Error("a filled row is written, too")
	}
	reads(t, v, 2, 50)
	if n, e := v.Fill(99); n != 3 || e != api.OK || !v.Filled() {
		t.Error("Fill")
	}
	if v.Accept() != api.OK || len(v.Stale()) > 0 || v.Filled() {
		t.Error("Accept")
	}
	if _, e := v.Fill(1); e != api.ErrState || v.Accept() != api.ErrState {
		t.Error("nothing is stale")
	}
	if l, e := v.Scrub(0, 9); len(l) > 0 || e != api.OK {
		t.Error("the parity behind Fill")
	}
	a.SetMissing(0, true)
	v.Flush()
	v.Drop(0)
	for at, want := range []uint64{1, 2, 50, 4, 51, 6, 7, 8, 9, 10, 52, 12} {
		reads(t, v, at, want)
	}
}

func TestFillErrors(t *testing.T) {
	a, v := opened(t, 3, 1)
	writes(t, v, 2, 9)
	v.Fill(3)
	a.SetMissing(1, true)
	writes(t, v, 2, 10)
	if v.Filled() || len(v.Failed()) > 0 {
		t.Error("an error of the stale leg in Write")
	}
	if n, e := v.Fill(3); n != 0 || e != api.OK {
		t.Errorf("an error of the stale leg in Fill: %d, %d", n, e)
	}
	a.SetMissing(1, false)
	if n, e := v.Fill(2); n != 2 || e != api.OK {
		t.Error("Fill begins anew")
	}
	v.Fill(1)
	a.SetMissing(1, true)
	if v.Accept() != api.ErrState || v.Filled() {
		t.Error("an error of the stale leg in Accept")
	}
	a.SetMissing(1, false)
	v.Fill(3)
	a.SetMissing(2, true)
	if v.Accept() != api.ErrLeg || !slices.Equal(v.Failed(), []int{2}) || !slices.Equal(v.Stale(), []int{1}) || v.Drop(2) != api.ErrStale {
		t.Error("an error of a good leg in Accept")
	}
	a, v = opened(t, 3, 1)
	a.SetBad(0, Head, true)
	if n, e := v.Fill(3); n != 0 || e != api.ErrLeg || !slices.Equal(v.Failed(), []int{0}) {
		t.Error("an error of a good leg in Fill")
	}
	a, v = opened(t, 3, 1)
	a.Fuse(2)
	if n, e := v.Fill(3); n != 0 || e != api.ErrPower {
		t.Error("the power fails in Fill")
	}
}

// P19.6
func TestScrub(t *testing.T) {
	a, v := opened(t, 4)
	for at := range 16 {
		writes(t, v, at, uint64(at*at))
	}
	v.Flush()
	for _, p := range [][2]int{{2, Head + 1}, {0, Head + 4}, {1, Head + 6}} {
		w, _ := a.Read(p[0], p[1])
		a.Write(p[0], p[1], w^4)
	}
	if l, e := v.Scrub(1, 2); e != api.OK || !slices.Equal(l, []int{2}) {
		t.Errorf("Scrub(1, 2): %v, %d", l, e)
	}
	if l, e := v.Scrub(0, math.MaxInt); e != api.OK || !slices.Equal(l, []int{0, 3}) {
		t.Errorf("Scrub of all rows: %v, %d", l, e)
	}
	for _, c := range [][2]int{{0, 9}, {0, 0}, {4, 9}, {math.MaxInt, math.MaxInt}} {
		if l, e := v.Scrub(c[0], c[1]); e != api.OK || len(l) > 0 {
			t.Errorf("Scrub%v: %v, %d", c, l, e)
		}
	}
	if _, e := v.Scrub(0, -1); e != api.ErrRange {
		t.Error("fewer rows than none")
	}
	v.Drop(0)
	if _, e := v.Scrub(0, 1); e != api.ErrState {
		t.Error("Scrub with a stale leg")
	}
	if _, e := v.Scrub(-1, 1); e != api.ErrRange {
		t.Error("range ahead of state")
	}
}

// What is corrected stays so behind a power failure, whatever the last write had as its parity.
func TestScrubbedParityStays(t *testing.T) {
	a, v := opened(t, 1)
	a.Write(2, Head, 77)
	v.Flush()
	writes(t, v, 0, 5)
	if l, e := v.Scrub(0, 1); e != api.OK || len(l) != 1 {
		t.Fatal("Scrub")
	}
	a.Restart(nil)
	var l []block.Device
	for d := range 3 {
		x, _ := block.Span(a, d, 0, Head+2)
		l = append(l, x)
	}
	v, e := Open(l, nil, 2)
	if e != api.OK {
		t.Fatal(e)
	}
	if l, e := v.Scrub(0, 1); e != api.OK || len(l) > 0 {
		t.Error("the parity is wrong again")
	}
}
