package pack

import (
	"math"
	"math/rand"
	"slices"
	"strings"
	"testing"

	"volumegroup/api"
)

// P2.1
func TestText(t *testing.T) {
	for _, c := range []struct{ n, want int }{{-1, 0}, {math.MinInt, 0}, {0, 1}, {1, 2}, {8, 2}, {9, 3}, {16, 3}, {8192, 1025}, {math.MaxInt, 1 + 1<<60}} {
		if n := Length(c.n); n != c.want {
			t.Errorf("Length of %d is %d", c.n, n)
		}
	}
	for _, c := range []struct {
		s    string
		want []uint64
	}{{"", []uint64{0}}, {"AB", []uint64{2, 0x4241}}, {"ABCDEFGH", []uint64{8, 0x4847464544434241}}, {"ABCDEFGHI", []uint64{9, 0x4847464544434241, 0x49}}, {"\xff\x00", []uint64{2, 0xff}}} {
		if l, e := Text(c.s); e != api.OK || !slices.Equal(l, c.want) {
			t.Errorf("Text of %q is %v, %d", c.s, l, e)
		}
	}
	if l, e := Text(strings.Repeat("x", api.MaxText)); e != api.OK || len(l) != 1025 {
		t.Error("the longest text")
	}
	if l, e := Text(strings.Repeat("x", api.MaxText+1)); e != api.ErrLimit || l != nil {
		t.Error("a text that is too long")
	}
}

// P2.2
func TestFromText(t *testing.T) {
	for _, l := range [][]uint64{nil, {1}, {2, 0x4241, 0}, {0, 0}, {2, 0x434241}, {9, 5}, {math.MaxUint64}, {1 << 63}} {
		if s, e := FromText(l); e != api.ErrForm || s != "" {
			t.Errorf("FromText of %v is %q, %d", l, s, e)
		}
	}
	long := make([]uint64, Length(api.MaxText+1))
	long[0] = api.MaxText + 1
	if _, e := FromText(long); e != api.ErrForm {
		t.Error("words of a text that is too long")
	}
	if s, e := FromText([]uint64{2, 0x4241}); s != "AB" || e != api.OK {
		t.Error("AB")
	}
}

// P2.3
func TestFields(t *testing.T) {
	if w, e := Fields([]int{20, 16}, []uint64{5, 3}); w != 3145733 || e != api.OK {
		t.Error("the example of the chapter")
	}
	if l, e := Split(3145733, []int{20, 16}); !slices.Equal(l, []uint64{5, 3}) || e != api.OK {
		t.Error("the example of the chapter, split")
	}
	if w, e := Fields([]int{64}, []uint64{math.MaxUint64}); w != math.MaxUint64 || e != api.OK {
		t.Error("one field of 64 bits")
	}
	if w, e := Fields(nil, nil); w != 0 || e != api.OK {
		t.Error("no fields")
	}
	for _, c := range []struct {
		widths []int
		values []uint64
		want   api.Errno
	}{
		{[]int{0}, nil, api.ErrSize}, {[]int{0}, []uint64{1}, api.ErrRange}, {[]int{65}, []uint64{0}, api.ErrRange}, {[]int{32, 33}, []uint64{0, 0}, api.ErrRange},
		{[]int{3}, []uint64{8}, api.ErrRange}, {[]int{3, -1}, []uint64{9, 9}, api.ErrRange}, {[]int{math.MaxInt, math.MaxInt}, []uint64{0, 0}, api.ErrRange},
	} {
		if w, e := Fields(c.widths, c.values); e != c.want || w != 0 {
			t.Errorf("Fields(%v, %v) is %d, %d", c.widths, c.values, w, e)
		}
	}
	if l, e := Split(7, []int{1, 64}); e != api.ErrRange || l != nil {
		t.Error("Split with widths that are too great")
	}
	if l, e := Split(math.MaxUint64, []int{1, 62, 1}); e != api.OK || !slices.Equal(l, []uint64{1, 1<<62 - 1, 1}) {
		t.Error("Split of a full word")
	}
}

// P2.4
func TestBits(t *testing.T) {
	l := []uint64{1, 1 << 63}
	for n := range 128 {
		want := n == 0 || n == 127
		if is, e := Bit(l, n); is != want || e != api.OK {
			t.Errorf("bit %d", n)
		}
	}
	m, e := SetBit(l, 64, true)
	if e != api.OK || !slices.Equal(m, []uint64{1, 1<<63 + 1}) || l[1] != 1<<63 {
		t.Error("a bit is set")
	}
	if m, e := SetBit(l, 0, false); e != api.OK || !slices.Equal(m, []uint64{0, 1 << 63}) || l[0] != 1 {
		t.Error("a bit is cleared")
	}
	for _, n := range []int{-1, 128, math.MaxInt, math.MinInt} {
		if is, e := Bit(l, n); is || e != api.ErrRange {
			t.Errorf("Bit %d", n)
		}
		if m, e := SetBit(l, n, true); m != nil || e != api.ErrRange {
			t.Errorf("SetBit %d", n)
		}
	}
	if _, e := Bit(nil, 0); e != api.ErrRange {
		t.Error("a bit of no words")
	}
}

// P2.5
func TestInverse(t *testing.T) {
	r := rand.New(rand.NewSource(1))
	for range 300 {
		b := make([]byte, r.Intn(40))
		r.Read(b)
		l, _ := Text(string(b))
		if s, e := FromText(l); e != api.OK || s != string(b) {
			t.Fatalf("FromText does not undo Text of %q", b)
		}
		l[r.Intn(len(l))] ^= 1 << r.Intn(64)
		if s, e := FromText(l); e == api.OK {
			if again, _ := Text(s); !slices.Equal(again, l) {
				t.Fatalf("FromText accepts %v", l)
			}
		}
		widths, values, left := []int{}, []uint64{}, 64
		for left > 0 && len(widths) < 9 {
			w := 1 + r.Intn(left)
			widths, left = append(widths, w), left-w
			values = append(values, r.Uint64()>>(64-w))
		}
		w, _ := Fields(widths, values)
		if back, e := Split(w, widths); e != api.OK || !slices.Equal(back, values) {
			t.Fatalf("Split does not undo Fields of %v, %v", widths, values)
		}
	}
}
