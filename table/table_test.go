package table

import (
	"math"
	"math/rand"
	"slices"
	"testing"

	"volumegroup/api"
)

func on(start, length int, name string, offset int) api.Target {
	return api.Target{Start: start, Length: length, On: name, Offset: offset}
}

func zero(start, length int) api.Target { return api.Target{Start: start, Length: length} }

func fails(start, length int) api.Target {
	return api.Target{Start: start, Length: length, Fail: true}
}

func table(l ...api.Target) []api.Target { return l }

func many(n int) []api.Target {
	var l []api.Target
	for i := range n {
		l = append(l, on(i, 1, "a", 2*i))
	}
	return l
}

// P22.1
func TestCheckSize(t *testing.T) {
	for i, c := range []struct {
		l    []api.Target
		want api.Errno
		size int
	}{
		{nil, api.OK, 0}, {table(on(0, 4, "a", 10), zero(4, 2), fails(6, 1)), api.OK, 7}, {many(64), api.OK, 64}, {many(65), api.ErrLimit, 0}, {append(many(64), zero(9, 0)), api.ErrLimit, 0},
		{table(zero(1, 1)), api.ErrForm, 0}, {table(zero(0, 2), zero(3, 1)), api.ErrForm, 0}, {table(zero(0, 0)), api.ErrRange, 0}, {table(zero(0, -1)), api.ErrRange, 0}, {table(zero(0, 1<<24+1)), api.ErrRange, 0}, {table(zero(0, 1<<24), zero(1<<24, 1)), api.OK, 1<<24 + 1},
		{table(zero(1, 0)), api.ErrForm, 0}, {table(api.Target{Length: 1, Fail: true, On: "a"}), api.ErrForm, 0}, {table(api.Target{Length: 1, Offset: 1}), api.ErrForm, 0}, {table(api.Target{Length: 1, Fail: true, Offset: -1}), api.ErrForm, 0},
		{table(on(0, 1, "a", -1)), api.ErrRange, 0}, {table(on(0, 1, "a", 1<<24)), api.ErrRange, 0}, {table(on(0, 1, "a", 1<<24-1)), api.OK, 1}, {table(on(0, 1, "a", math.MaxInt)), api.ErrRange, 0}, {table(zero(0, math.MaxInt), zero(0, math.MaxInt)), api.ErrRange, 0},
		{table(api.Target{Length: 0, Fail: true, On: "a"}), api.ErrRange, 0},
	} {
		if e, n := Check(c.l), Size(c.l); e != c.want || n != c.size {
			t.Errorf("table %d: %d, %d", i, e, n)
		}
	}
}

// P22.2
func TestFindSplit(t *testing.T) {
	l := table(on(0, 4, "a", 10), zero(4, 2), fails(6, 3))
	for at, want := range [][2]int{{0, 0}, {0, 1}, {0, 2}, {0, 3}, {1, 0}, {1, 1}, {2, 0}, {2, 1}, {2, 2}} {
		if k, o, ok := Find(l, at); !ok || k != want[0] || o != want[1] {
			t.Errorf("Find(%d) is %d, %d", at, k, o)
		}
	}
	for _, at := range []int{-1, 9, math.MaxInt, math.MinInt} {
		if k, o, ok := Find(l, at); ok || k != 0 || o != 0 {
			t.Errorf("Find(%d)", at)
		}
	}
	if _, _, ok := Find(table(zero(0, 5), zero(4, 1)), 1); ok {
		t.Error("Find in no table")
	}
	for _, c := range []struct {
		at, n int
		want  []api.Piece
		e     api.Errno
	}{
		{3, 2, []api.Piece{{Target: 0, At: 3, Length: 1}, {Target: 1, At: 0, Length: 1}}, 0}, {0, 9, []api.Piece{{Target: 0, Length: 4}, {Target: 1, Length: 2}, {Target: 2, Length: 3}}, 0}, {9, 0, nil, 0}, {5, 0, nil, 0}, {7, 1, []api.Piece{{Target: 2, At: 1, Length: 1}}, 0},
		{9, 1, nil, api.ErrRange}, {-1, 1, nil, api.ErrRange}, {0, -1, nil, api.ErrRange}, {10, 0, nil, api.ErrRange}, {1, math.MaxInt, nil, api.ErrRange}, {math.MaxInt, math.MaxInt, nil, api.ErrRange},
	} {
		if p, e := Split(l, c.at, c.n); e != c.e || !slices.Equal(p, c.want) {
			t.Errorf("Split(%d, %d): %v, %d", c.at, c.n, p, e)
		}
	}
	if _, e := Split(table(zero(1, 1)), -1, -1); e != api.ErrForm {
		t.Error("Split of no table")
	}
	if p, e := Split(nil, 0, 0); len(p) != 0 || e != api.OK {
		t.Error("Split of an empty table")
	}
	example := table(on(0, 4, "a", 10), on(4, 2, "a", 14))
	if p, _ := Split(example, 3, 2); !slices.Equal(p, []api.Piece{{Target: 0, At: 3, Length: 1}, {Target: 1, At: 0, Length: 1}}) {
		t.Error("the example")
	}
}

// P22.3
func TestUsesMerge(t *testing.T) {
	if l := Uses(table(on(0, 1, "b", 0), zero(1, 1), on(2, 1, "a", 0), on(3, 1, "b", 5))); !slices.Equal(l, []string{"b", "a"}) {
		t.Errorf("Uses: %v", l)
	}
	if len(Uses(nil)) != 0 {
		t.Error("Uses of nothing")
	}
	big := 1 << 24
	for i, c := range []struct{ l, want []api.Target }{
		{table(on(0, 4, "a", 10), on(4, 2, "a", 14)), table(on(0, 6, "a", 10))},
		{table(on(0, 4, "a", 10), on(4, 2, "a", 15)), table(on(0, 4, "a", 10), on(4, 2, "a", 15))},
		{table(on(0, 4, "a", 0), on(4, 2, "b", 4)), table(on(0, 4, "a", 0), on(4, 2, "b", 4))},
		{table(zero(0, 1), zero(1, 2), fails(3, 1), fails(4, 1), zero(5, 1)), table(zero(0, 3), fails(3, 2), zero(5, 1))},
		{table(zero(0, big-1), zero(big-1, 1), zero(big, 2), zero(big+2, 3)), table(zero(0, big), zero(big, 5))},
		{table(zero(0, 1), zero(0, 1)), nil}, {nil, nil},
	} {
		if m := Merge(c.l); !slices.Equal(m, c.want) {
			t.Errorf("Merge %d: %v", i, m)
		}
	}
}

// P22.4
func TestCutJoin(t *testing.T) {
	l := table(on(0, 4, "a", 10), zero(4, 2), fails(6, 3))
	for _, c := range []struct {
		at, n int
		want  []api.Target
		e     api.Errno
	}{{2, 5, table(on(0, 2, "a", 12), zero(2, 2), fails(4, 1)), 0}, {5, 1, table(zero(0, 1)), 0}, {3, 0, nil, 0}, {0, 9, l, 0}, {0, 10, nil, api.ErrRange}, {-1, 2, nil, api.ErrRange}} {
		if m, e := Cut(l, c.at, c.n); e != c.e || !slices.Equal(m, c.want) {
			t.Errorf("Cut(%d, %d): %v, %d", c.at, c.n, m, e)
		}
	}
	if _, e := Cut(table(zero(0, 0)), 0, 0); e != api.ErrRange {
		t.Error("Cut of no table")
	}
	if j, e := Join(table(zero(0, 2)), l); e != api.OK || !slices.Equal(j, table(zero(0, 2), on(2, 4, "a", 10), zero(6, 2), fails(8, 3))) {
		t.Errorf("Join: %v, %d", j, e)
	}
	if j, e := Join(nil, nil); e != api.OK || len(j) != 0 {
		t.Error("Join of nothing")
	}
	for i, c := range []struct {
		a, b []api.Target
		want api.Errno
	}{{table(zero(1, 1)), table(zero(0, 0)), api.ErrForm}, {nil, table(zero(0, 0)), api.ErrRange}, {many(60), many(5), api.ErrLimit}, {many(60), many(4), api.OK}} {
		if j, e := Join(c.a, c.b); e != c.want || e != api.OK && j != nil {
			t.Errorf("Join %d: %d", i, e)
		}
	}
}

func random(r *rand.Rand) []api.Target {
	var l []api.Target
	for range r.Intn(8) {
		x := []api.Target{zero(0, 0), fails(0, 0), on(0, 0, "a", r.Intn(5)), on(0, 0, "b", r.Intn(5))}[r.Intn(4)]
		x.Start, x.Length = end(l), 1+r.Intn(3)
		l = append(l, x)
	}
	return l
}

// place is what a sector of a table is.
func place(t *testing.T, l []api.Target, at int) api.Target {
	k, o, ok := Find(l, at)
	if !ok {
		t.Fatalf("sector %d of %v", at, l)
	}
	x := l[k]
	if x.On != "" {
		x.Offset += o
	}
	x.Start, x.Length = 0, 0
	return x
}

// P22.5
func TestLaws(t *testing.T) {
	r := rand.New(rand.NewSource(1))
	for range 500 {
		a, b := random(r), random(r)
		n := Size(a)
		m := Merge(a)
		j, _ := Join(a, b)
		at := r.Intn(n + 1)
		k := r.Intn(n - at + 1)
		c, _ := Cut(a, at, k)
		if Size(m) != n || Size(j) != n+Size(b) || Size(c) != k {
			t.Fatal("sizes")
		}
		for i := range n {
			if place(t, a, i) != place(t, m, i) || place(t, a, i) != place(t, j, i) || i >= at && i < at+k && place(t, a, i) != place(t, c, i-at) {
				t.Fatalf("sector %d of %v", i, a)
			}
		}
		for i := range Size(b) {
			if place(t, b, i) != place(t, j, n+i) {
				t.Fatalf("sector %d of %v", i, b)
			}
		}
		pieces, _ := Split(a, at, k)
		for _, p := range pieces {
			for i := range p.Length {
				if q, o, _ := Find(a, at); q != p.Target || o != p.At+i {
					t.Fatalf("piece %v of %v", p, a)
				}
				at++
			}
			k -= p.Length
		}
		if k != 0 {
			t.Fatal("the pieces do not cover the sectors")
		}
	}
}
