package parity

import (
	"math"
	"math/rand"
	"testing"

	"volumegroup/api"
)

// P18.1
func TestPlaceBackSize(t *testing.T) {
	for at, want := range [][3]int{{0, 0, 2}, {1, 0, 2}, {2, 1, 1}, {0, 1, 1}, {1, 2, 0}, {2, 2, 0}, {0, 3, 2}} {
		leg, offset, parity, e := Place(1, 3, at)
		if e != api.OK || [3]int{leg, offset, parity} != want {
			t.Errorf("Place(1, 3, %d) is %d, %d, %d", at, leg, offset, parity)
		}
	}
	if leg, offset, parity, e := Place(4, 4, 4*3+4+3); leg != 0 || offset != 7 || parity != 2 || e != api.OK {
		t.Errorf("Place(4, 4, 19) is %d, %d, %d", leg, offset, parity)
	}
	if at, data, e := Back(1, 3, 2, 0); at != 0 || data || e != api.OK {
		t.Error("Back of parity")
	}
	if at, data, e := Back(1, 3, 0, 1); at != 3 || !data || e != api.OK {
		t.Error("Back")
	}
	for _, c := range [][3]int{{0, 3, 0}, {65537, 3, 0}, {1, 2, 0}, {1, 7, 0}, {1, 3, -1}, {1, 3, 1<<30 + 1}, {math.MinInt, math.MaxInt, 0}} {
		if leg, offset, parity, e := Place(c[0], c[1], c[2]); leg != 0 || offset != 0 || parity != 0 || e != api.ErrRange {
			t.Errorf("Place%v", c)
		}
		if at, data, e := Back(c[0], c[1], 0, c[2]); at != 0 || data || e != api.ErrRange {
			t.Errorf("Back%v", c)
		}
	}
	if _, _, _, e := Place(65536, 6, 1<<30); e != api.OK {
		t.Error("the greatest sector")
	}
	for _, leg := range []int{-1, 3} {
		if _, _, e := Back(1, 3, leg, 0); e != api.ErrRange {
			t.Errorf("Back of leg %d", leg)
		}
	}
	for _, c := range []struct {
		chunk int
		sizes []int
		want  int
		e     api.Errno
	}{
		{2, []int{4, 5, 9}, 8, 0}, {2, []int{5, 5, 5, 5}, 12, 0}, {9, []int{5, 5, 5}, 0, 0}, {1, []int{1 << 30, 1 << 30, 1 << 30}, 1 << 31, 0},
		{0, []int{1, 1, 1}, 0, api.ErrRange}, {1, []int{1, 1}, 0, api.ErrRange}, {1, make([]int, 7), 0, api.ErrRange}, {1, []int{1, -1, 1}, 0, api.ErrRange}, {1, []int{1, 1, 1<<30 + 1}, 0, api.ErrRange}, {65537, []int{1, 1, 1}, 0, api.ErrRange},
	} {
		if n, e := Size(c.chunk, c.sizes); n != c.want || e != c.e {
			t.Errorf("Size(%d, %v) is %d, %d", c.chunk, c.sizes, n, e)
		}
	}
}

// P18.2
func TestXorRebuildUpdate(t *testing.T) {
	if Xor(nil) != 0 || Xor([]uint64{5}) != 5 || Xor([]uint64{1, 2, 7}) != 4 {
		t.Error("Xor")
	}
	if w, e := Rebuild([]uint64{1, 99, 7}, 1); w != 6 || e != api.OK {
		t.Error("Rebuild")
	}
	for _, k := range []int{-1, 3, math.MaxInt} {
		if w, e := Rebuild([]uint64{1, 2, 3}, k); w != 0 || e != api.ErrRange {
			t.Errorf("Rebuild of %d", k)
		}
	}
	if _, e := Rebuild(nil, 0); e != api.ErrRange {
		t.Error("Rebuild of nothing")
	}
	if Update(1, 2, 4) != 7 {
		t.Error("Update")
	}
}

// P18.3
func TestLaws(t *testing.T) {
	r := rand.New(rand.NewSource(1))
	for range 500 {
		row := make([]uint64, 3+r.Intn(4))
		for i := range row[1:] {
			row[i+1] = r.Uint64()
		}
		row[0] = Xor(row)
		for i, w := range row {
			if x, _ := Rebuild(row, i); x != w {
				t.Fatal("Rebuild")
			}
		}
		k, now := 1+r.Intn(len(row)-1), r.Uint64()
		row[0], row[k] = Update(row[k], now, row[0]), now
		if Xor(row) != 0 {
			t.Fatal("Update")
		}
		chunk, n, at := 1+r.Intn(9), 3+r.Intn(4), r.Intn(1000)
		leg, offset, parity, _ := Place(chunk, n, at)
		if back, data, e := Back(chunk, n, leg, offset); back != at || !data || e != api.OK || leg == parity {
			t.Fatal("Back does not undo Place")
		}
		if _, data, _ := Back(chunk, n, parity, offset); data {
			t.Fatal("the parity is data")
		}
		counts := make([]int, n)
		for row := range n {
			for leg := range n {
				if _, data, _ := Back(chunk, n, leg, (at+row)*chunk); !data {
					counts[leg]++
				}
			}
		}
		for leg, c := range counts {
			if c != 1 {
				t.Fatalf("leg %d has %d parities of %d rows", leg, c, n)
			}
		}
	}
}
