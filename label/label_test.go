package label

import (
	"math"
	"slices"
	"testing"

	"volumegroup/api"
	"volumegroup/block"
	"volumegroup/checksum"
	"volumegroup/disk"
)

func device(t *testing.T, n int) (*disk.Array, block.Device) {
	t.Helper()
	a, e := disk.New([]int{n})
	if e != api.OK {
		t.Fatal(e)
	}
	x, _ := block.Span(a, 0, 0, n)
	return a, x
}

func example() api.Label { return api.Label{ID: 7, Size: 100, Start: 8, Area: 40} }

// P11.1
func TestWords(t *testing.T) {
	w, e := Words(example())
	sum := uint64(checksum.Words([]uint64{magic, 7, 100, 8, 40, 0, 0}))
	if e != api.OK || !slices.Equal(w, []uint64{magic, 7, 100, 8, 40, 0, sum, 0}) {
		t.Errorf("Words is %v, %d", w, e)
	}
	if l, e := FromWords(w); l != example() || e != api.OK {
		t.Error("FromWords")
	}
	for i, l := range []api.Label{{Size: 0, Start: 8, Area: 4}, {Size: 65537, Start: 8, Area: 4}, {Size: 100, Start: 7, Area: 4}, {Size: 100, Start: 8, Area: 3}, {Size: 100, Start: 8, Area: 93}, {Size: 100, Start: 101, Area: 4}, {Size: 100, Start: math.MaxInt, Area: math.MaxInt}, {Size: -1, Start: 8, Area: 4}, {Size: 100, Start: 8, Area: math.MinInt}} {
		w, e := Words(l)
		if Check(l) != api.ErrRange || w != nil || e != api.ErrRange {
			t.Errorf("label %d", i)
		}
		x := words(l)
		if m, e := FromWords(x[:]); m != (api.Label{}) || e != api.ErrRange {
			t.Errorf("FromWords of label %d", i)
		}
	}
	for _, l := range []api.Label{{Size: 65536, Start: 8, Area: 65528}, {Size: 12, Start: 8, Area: 4, ID: math.MaxUint64, Group: math.MaxUint64}} {
		w, e := Words(l)
		if m, e2 := FromWords(w); e != api.OK || e2 != api.OK || m != l {
			t.Errorf("label %v", l)
		}
	}
	for i, want := range []api.Errno{api.ErrForm, api.ErrSum, api.ErrSum, api.ErrSum, api.ErrSum, api.ErrSum, api.ErrSum, api.ErrForm} {
		for _, bit := range []int{0, 31, 32, 63} {
			c := slices.Clone(w)
			c[i] ^= 1 << bit
			if l, e := FromWords(c); e != want || l != (api.Label{}) {
				t.Errorf("word %d changed: %d", i, e)
			}
		}
	}
	for _, c := range [][]uint64{nil, w[:7], append(slices.Clone(w), 0)} {
		if _, e := FromWords(c); e != api.ErrSize {
			t.Errorf("%d words", len(c))
		}
	}
}

// P11.2
func TestDevice(t *testing.T) {
	a, x := device(t, 100)
	w, _ := Words(example())
	if Write(x, example()) != api.OK || a.Writes() != 9 || a.Unflushed() != 0 {
		t.Error("Write")
	}
	if l, _ := block.ReadAll(x, 0, 8); !slices.Equal(l, w) {
		t.Error("the words of the device")
	}
	if l, e := Read(x); l != example() || e != api.OK {
		t.Error("Read")
	}
	if Write(x, api.Label{}) != api.ErrRange || Write(x, api.Label{Size: 101, Start: 8, Area: 4}) != api.ErrSize || a.Writes() != 9 {
		t.Error("errors of Write")
	}
	short, _ := block.Window(x, 0, 99)
	if _, e := Read(short); e != api.ErrSize {
		t.Error("a device that is shorter than Size")
	}
	tiny, _ := block.Window(x, 0, 7)
	if _, e := Read(tiny); e != api.ErrSize || Erase(tiny) != api.ErrSize {
		t.Error("a device of 7 sectors")
	}
	a.SetBad(0, 3, true)
	if _, e := Read(x); e != api.ErrBad {
		t.Error("a bad sector")
	}
	a.SetBad(0, 3, false)
	writes := a.Writes()
	if Erase(x) != api.OK || a.Writes() != writes+1 || a.Unflushed() != 0 {
		t.Error("Erase")
	}
	if _, e := Read(x); e != api.ErrForm {
		t.Error("Read behind Erase")
	}
	if Write(block.Zero(100), example()) != api.ErrReadOnly || Erase(block.Fail(9)) != api.ErrBad {
		t.Error("errors of the device")
	}
	a.SetMissing(0, true)
	if _, e := Read(x); e != api.ErrMissing || Write(x, example()) != api.ErrMissing {
		t.Error("a missing disk")
	}
}

// crashes does work with a fuse at every write and with every choice of survivors, and checks what is left.
func crashes(t *testing.T, start func(x block.Device), work func(x block.Device) api.Errno, check func(x block.Device)) {
	t.Helper()
	for n := 1; ; n++ {
		a, x := device(t, 100)
		start(x)
		x.Flush()
		a.Fuse(n)
		e := work(x)
		for mask := range 1 << a.Unflushed() {
			c := a.Copy()
			var keep []bool
			for i := range a.Unflushed() {
				keep = append(keep, mask>>i&1 == 1)
			}
			c.Restart(keep)
			y, _ := block.Span(c, 0, 0, 100)
			check(y)
		}
		if e == api.OK {
			return
		}
	}
}

// P11.3
func TestPowerFailures(t *testing.T) {
	check := func(x block.Device) {
		if l, e := Read(x); e != api.ErrForm && (e != api.OK || l != example()) {
			t.Errorf("Read is %v, %d", l, e)
		}
	}
	write := func(x block.Device) api.Errno { return Write(x, example()) }
	for _, start := range []func(x block.Device){
		func(x block.Device) {},
		func(x block.Device) { block.WriteAll(x, 0, []uint64{1, 2, 3, 4, 5, 6, 7, 8}) },
		func(x block.Device) { write(x) },
	} {
		crashes(t, start, write, check)
		crashes(t, func(x block.Device) { write(x) }, Erase, check)
	}
}
