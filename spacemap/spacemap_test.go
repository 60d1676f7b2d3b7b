package spacemap

import (
	"math"
	"math/rand"
	"slices"
	"testing"

	"volumegroup/api"
)

func loaded(t *testing.T, l ...int) *Map {
	t.Helper()
	m, e := Load(l)
	if e != api.OK {
		t.Fatal(e)
	}
	return m
}

// P24.1
func TestNewLoad(t *testing.T) {
	for n, want := range map[int]api.Errno{1: api.OK, api.MaxData: api.OK, 0: api.ErrRange, -1: api.ErrRange, api.MaxData + 1: api.ErrRange, math.MaxInt: api.ErrRange} {
		m, e := New(n)
		if e != want || (m == nil) != (e != api.OK) || m != nil && (m.Len() != n || m.Free() != n) {
			t.Errorf("New(%d): %d", n, e)
		}
	}
	for i, c := range []struct {
		l    []int
		want api.Errno
	}{{nil, api.ErrRange}, {make([]int, api.MaxData+1), api.ErrRange}, {append(make([]int, api.MaxData), -1), api.ErrRange}, {[]int{1, -1}, api.ErrLimit}, {[]int{api.MaxCount + 1}, api.ErrLimit}, {[]int{api.MaxCount, 0}, api.OK}} {
		m, e := Load(c.l)
		if e != c.want || (m == nil) != (e != api.OK) {
			t.Errorf("Load %d: %d", i, e)
		}
	}
	l := []int{3, 0}
	m := loaded(t, l...)
	l[0] = 9
	if m.Count(0) != 3 || m.Was(0) != 3 {
		t.Error("the counts of Load")
	}
}

// P24.2
func TestCounts(t *testing.T) {
	m := loaded(t, 2, 0, 1, 0)
	for _, b := range []int{-1, 4, math.MaxInt} {
		if m.Count(b) != 0 || m.Was(b) != 0 {
			t.Errorf("block %d", b)
		}
	}
	m.Dec(2)
	m.Inc(0)
	m.Alloc()
	if !slices.Equal(m.Changed(), []int{0, 1, 2}) || !slices.Equal(m.Counts(), []int{3, 1, 0, 0}) || m.Free() != 1 || m.Len() != 4 || m.Was(0) != 2 || m.Was(2) != 1 {
		t.Errorf("%v, %v, %d", m.Changed(), m.Counts(), m.Free())
	}
	m.Counts()[0] = 77
	if m.Count(0) != 3 {
		t.Error("Counts shares memory")
	}
}

// P24.3
func TestIncDecAlloc(t *testing.T) {
	m := loaded(t, api.MaxCount, 0, 1)
	for i, c := range []struct{ got, want api.Errno }{
		{m.Inc(-1), api.ErrRange}, {m.Inc(3), api.ErrRange}, {m.Inc(1), api.ErrNone}, {m.Inc(0), api.ErrLimit}, {m.Inc(2), api.OK}, {m.Dec(3), api.ErrRange}, {m.Dec(-1), api.ErrRange}, {m.Dec(1), api.ErrNone}, {m.Dec(2), api.OK}, {m.Dec(2), api.OK}, {m.Dec(2), api.ErrNone}, {m.Inc(2), api.ErrNone},
	} {
		if c.got != c.want {
			t.Errorf("call %d: %d, not %d", i, c.got, c.want)
		}
	}
	if b, e := m.Alloc(); b != 1 || e != api.OK {
		t.Error("the least free block")
	}
	if b, e := m.Alloc(); b != 0 || e != api.ErrSpace {
		t.Error("a released block is not free")
	}
	// The example of the chapter.
	m, _ = New(3)
	b0, _ := m.Alloc()
	b1, _ := m.Alloc()
	m.Commit()
	m.Dec(0)
	b2, _ := m.Alloc()
	_, e := m.Alloc()
	m.Commit()
	b3, _ := m.Alloc()
	if !slices.Equal([]int{b0, b1, b2, b3}, []int{0, 1, 2, 0}) || e != api.ErrSpace {
		t.Error("the example")
	}
}

// P24.4
func TestCommitRollback(t *testing.T) {
	m := loaded(t, 1, 0, 2)
	m.Alloc()
	m.Dec(0)
	m.Rollback()
	if !slices.Equal(m.Counts(), []int{1, 0, 2}) || len(m.Changed()) != 0 {
		t.Error("Rollback")
	}
	m.Alloc()
	m.Dec(0)
	m.Commit()
	m.Inc(2)
	m.Rollback()
	if !slices.Equal(m.Counts(), []int{0, 1, 2}) || m.Was(1) != 1 || m.Was(0) != 0 || m.Free() != 1 {
		t.Error("Commit")
	}
}

// P24.5
func TestCommittedStays(t *testing.T) {
	r := rand.New(rand.NewSource(1))
	for range 200 {
		m, _ := New(6)
		saved := m.Counts()
		for range 60 {
			b := r.Intn(6)
			switch r.Intn(9) {
			case 0, 1, 2:
				m.Dec(b)
			case 3, 4:
				m.Inc(b)
			case 5:
				m.Commit()
				saved = m.Counts()
			case 6:
				m.Rollback()
				if !slices.Equal(m.Counts(), saved) {
					t.Fatal("Rollback")
				}
			default:
				if b, e := m.Alloc(); e == api.OK && (saved[b] > 0 || m.Count(b) != 1) {
					t.Fatalf("block %d is allocated, and was committed", b)
				}
			}
		}
	}
}
