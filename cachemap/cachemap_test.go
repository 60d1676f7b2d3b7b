package cachemap

import (
	"math"
	"math/rand"
	"slices"
	"testing"

	"volumegroup/api"
)

func slot(block, stamp int, dirty bool) api.CacheSlot {
	return api.CacheSlot{Valid: true, Block: block, Stamp: stamp, Dirty: dirty}
}

func state(clock int, missed []int, l ...api.CacheSlot) api.CacheState {
	return api.CacheState{Slots: l, Clock: clock, Missed: missed}
}

func same(a, b api.CacheState) bool {
	return a.Clock == b.Clock && slices.Equal(a.Slots, b.Slots) && slices.Equal(a.Missed, b.Missed)
}

// P31.1
func TestNewValid(t *testing.T) {
	for n, want := range map[int]api.Errno{1: api.OK, 1024: api.OK, 0: api.ErrRange, -1: api.ErrRange, 1025: api.ErrRange, math.MaxInt: api.ErrRange} {
		if s, e := New(n); e != want || e == api.OK && (len(s.Slots) != n || Valid(s) != api.OK) || e != api.OK && len(s.Slots) > 0 {
			t.Errorf("New(%d): %d", n, e)
		}
	}
	good := state(5, []int{1, 2}, slot(0, 5, true), api.CacheSlot{}, slot(api.MaxKey, 0, false))
	if Valid(good) != api.OK || Valid(state(1<<40, nil, slot(1, 1<<40, false))) != api.OK {
		t.Error("valid states")
	}
	for i, s := range []api.CacheState{
		{}, {Slots: make([]api.CacheSlot, 1025)}, state(-1, nil, api.CacheSlot{}), state(1<<40+1, nil, api.CacheSlot{}), state(5, nil, api.CacheSlot{Block: 1}), state(5, nil, api.CacheSlot{Dirty: true}), state(5, nil, api.CacheSlot{Stamp: 1}),
		state(5, nil, slot(-1, 0, false)), state(5, nil, slot(api.MaxKey+1, 0, false)), state(5, nil, slot(1, -1, false)), state(5, nil, slot(1, 6, false)), state(5, nil, slot(1, 1, false), slot(1, 2, false)),
		state(5, []int{1, 2, 3, 4, 5, 6, 7, 8, 9}, api.CacheSlot{}), state(5, []int{-1}, api.CacheSlot{}), state(5, []int{api.MaxKey + 1}, api.CacheSlot{}), state(5, []int{1, 1}, api.CacheSlot{}), state(5, []int{7}, slot(7, 1, false)),
	} {
		_, e1 := Touch(s, -1)
		_, _, e2 := Miss(s, -1)
		_, e3 := Victim(s)
		_, e4 := Place(s, -1, -1)
		_, e5 := Clear(s, -1)
		_, e6 := SetDirty(s, -1, true)
		for k, e := range []api.Errno{Valid(s), e1, e2, e3, e4, e5, e6} {
			if e != api.ErrForm {
				t.Errorf("state %d, function %d: %d", i, k, e)
			}
		}
		if Find(s, 1) != -1 || Oldest(s) != -1 {
			t.Errorf("state %d: Find and Oldest", i)
		}
	}
}

// P31.2
func TestFindTouch(t *testing.T) {
	s := state(5, nil, slot(7, 5, true), api.CacheSlot{}, slot(0, 3, false))
	if Find(s, 7) != 0 || Find(s, 0) != 2 || Find(s, 1) != -1 || Find(s, -1) != -1 {
		t.Error("Find")
	}
	if x, e := Touch(s, 2); e != api.OK || !same(x, state(6, nil, slot(7, 5, true), api.CacheSlot{}, slot(0, 6, false))) || s.Clock != 5 || s.Slots[2].Stamp != 3 {
		t.Error("Touch")
	}
	last := state(1<<40, nil, slot(7, 5, true), api.CacheSlot{})
	for i, c := range []struct {
		s    api.CacheState
		k    int
		want api.Errno
	}{{s, -1, api.ErrRange}, {s, 3, api.ErrRange}, {s, 1, api.ErrNone}, {last, 1, api.ErrNone}, {last, 0, api.ErrLimit}} {
		if x, e := Touch(c.s, c.k); e != c.want || !same(x, api.CacheState{}) {
			t.Errorf("Touch %d: %d", i, e)
		}
	}
}

// P31.3
func TestMiss(t *testing.T) {
	s := state(5, []int{1, 2, 3, 4, 5, 6, 7, 8}, slot(50, 1, false))
	if x, is, e := Miss(s, 9); is || e != api.OK || !slices.Equal(x.Missed, []int{2, 3, 4, 5, 6, 7, 8, 9}) || x.Clock != 5 {
		t.Errorf("a new block: %v", x.Missed)
	}
	if x, is, e := Miss(s, 3); !is || e != api.OK || !slices.Equal(x.Missed, []int{1, 2, 4, 5, 6, 7, 8}) || len(s.Missed) != 8 || s.Missed[2] != 3 {
		t.Errorf("a block that was missed: %v", x.Missed)
	}
	for b, want := range map[int]api.Errno{-1: api.ErrRange, api.MaxKey + 1: api.ErrRange, 50: api.ErrUse, api.MaxKey: api.OK} {
		if _, is, e := Miss(s, b); is || e != want {
			t.Errorf("Miss(%d): %d", b, e)
		}
	}
}

// P31.4
func TestVictimPlaceClear(t *testing.T) {
	for i, c := range []struct {
		s    api.CacheState
		want int
	}{
		{state(9, nil, slot(1, 1, false), api.CacheSlot{}, api.CacheSlot{}), 1}, {state(9, nil, slot(1, 1, true), slot(2, 5, false), slot(3, 4, false), slot(4, 4, false)), 2}, {state(9, nil, slot(1, 5, true), slot(2, 3, true), slot(3, 3, true)), 1},
	} {
		if k, e := Victim(c.s); k != c.want || e != api.OK {
			t.Errorf("Victim %d: %d, %d", i, k, e)
		}
	}
	s := state(5, []int{8, 9}, slot(1, 2, true), api.CacheSlot{}, slot(3, 1, false))
	if x, e := Place(s, 1, 9); e != api.OK || !same(x, state(6, []int{8}, slot(1, 2, true), slot(9, 6, false), slot(3, 1, false))) || s.Slots[1].Valid || len(s.Missed) != 2 {
		t.Errorf("Place: %v, %d", x, e)
	}
	last := state(1<<40, nil, api.CacheSlot{}, slot(1, 1, false))
	for i, c := range []struct {
		s    api.CacheState
		k, b int
		want api.Errno
	}{{s, 3, 9, api.ErrRange}, {s, -1, 9, api.ErrRange}, {s, 1, -1, api.ErrRange}, {s, 0, api.MaxKey + 1, api.ErrRange}, {s, 0, 9, api.ErrUse}, {s, 1, 3, api.ErrUse}, {last, 0, 1, api.ErrUse}, {last, 0, 2, api.ErrLimit}} {
		if x, e := Place(c.s, c.k, c.b); e != c.want || !same(x, api.CacheState{}) {
			t.Errorf("Place %d: %d", i, e)
		}
	}
	for k, want := range map[int]api.Errno{0: api.ErrDirty, 1: api.OK, 2: api.OK, 3: api.ErrRange, -1: api.ErrRange} {
		x, e := Clear(s, k)
		if e != want || e == api.OK && x.Slots[k] != (api.CacheSlot{}) || e != api.OK && len(x.Slots) > 0 {
			t.Errorf("Clear(%d): %d", k, e)
		}
	}
	for k, want := range map[int]api.Errno{0: api.OK, 1: api.ErrNone, 2: api.OK, 3: api.ErrRange, -1: api.ErrRange} {
		for _, dirty := range []bool{true, false} {
			x, e := SetDirty(s, k, dirty)
			if e != want || e == api.OK && (x.Slots[k].Dirty != dirty || x.Slots[k].Stamp != s.Slots[k].Stamp) {
				t.Errorf("SetDirty(%d): %d", k, e)
			}
		}
	}
	if !s.Slots[0].Dirty || s.Slots[2].Dirty || !s.Slots[2].Valid {
		t.Error("an argument is changed")
	}
	if Oldest(s) != 0 || Oldest(state(9, nil, slot(1, 5, true), slot(2, 3, true), slot(3, 3, true), slot(4, 0, false))) != 1 || Oldest(last) != -1 {
		t.Error("Oldest")
	}
}

// P31.5
func TestValidStays(t *testing.T) {
	r := rand.New(rand.NewSource(1))
	for range 200 {
		s, _ := New(1 + r.Intn(4))
		for range 100 {
			k, b := r.Intn(5), r.Intn(12)
			var x api.CacheState
			var e api.Errno
			switch r.Intn(5) {
			case 0:
				x, e = Touch(s, k)
			case 1:
				x, _, e = Miss(s, b)
			case 2:
				x, e = Place(s, k, b)
			case 3:
				x, e = Clear(s, k)
			default:
				x, e = SetDirty(s, k, b%2 == 0)
			}
			if e == api.OK {
				s = x
			}
			if Valid(s) != api.OK {
				t.Fatalf("%v is not valid", s)
			}
			v, _ := Victim(s)
			clean := slices.ContainsFunc(s.Slots, func(x api.CacheSlot) bool { return !x.Dirty })
			if clean && s.Slots[v].Dirty {
				t.Fatal("a dirty slot is given up ahead of one that is not")
			}
		}
	}
	s, _ := New(1)
	s, _, _ = Miss(s, 100)
	for b := range api.CacheMisses - 1 {
		s, _, _ = Miss(s, b)
	}
	if _, is, _ := Miss(s, 100); !is {
		t.Error("a block that is used twice within CacheMisses misses")
	}
	s, _, _ = Miss(s, 50)
	if _, is, _ := Miss(s, 100); is {
		t.Error("a block that was forgotten")
	}
	s, _ = New(1)
	s, a, _ := Miss(s, 7)
	s, b, _ := Miss(s, 7)
	s, _ = Place(s, 0, 7)
	s, c, _ := Miss(s, 8)
	s, d, _ := Miss(s, 8)
	v, _ := Victim(s)
	if a || !b || c || !d || v != 0 {
		t.Error("the example")
	}
}
