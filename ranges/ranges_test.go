package ranges

import (
	"math"
	"math/rand"
	"slices"
	"testing"

	"volumegroup/api"
)

type list = []api.Range

// rs is the list of ranges with these starts and lengths.
func rs(n ...int) list {
	var l list
	for i := 0; i < len(n); i += 2 {
		l = append(l, api.Range{Start: n[i], Length: n[i+1]})
	}
	return l
}

func same(a, b list) bool { return slices.Equal(a, b) }

func random(r *rand.Rand) list {
	var l list
	for range r.Intn(6) {
		l = append(l, api.Range{Start: r.Intn(20), Length: r.Intn(6)})
	}
	return l
}

func set(l list) [32]bool {
	var s [32]bool
	for _, r := range l {
		for i := range r.Length {
			s[r.Start+i] = true
		}
	}
	return s
}

// fromSet is the normal form of a set.
func fromSet(s [32]bool) list {
	var l list
	for i, in := range s {
		switch {
		case in && i > 0 && s[i-1]:
			l[len(l)-1].Length++
		case in:
			l = append(l, api.Range{Start: i, Length: 1})
		}
	}
	return l
}

func invalid() []list {
	return []list{rs(-1, 2), rs(0, -1), rs(0, 1<<30+1), rs(1<<30, 1), rs(1, 1, math.MaxInt, math.MaxInt), rs(1<<30+1, 0), rs(math.MinInt, 0), rs(2, math.MinInt)}
}

// P3.1
func TestOperations(t *testing.T) {
	if l, e := Normal(rs(3, 2, 5, 1, 0, 0)); e != api.OK || !same(l, rs(3, 3)) {
		t.Error("Normal of the example")
	}
	if l, e := Minus(rs(0, 10), rs(2, 3)); e != api.OK || !same(l, rs(0, 2, 5, 5)) {
		t.Error("Minus of the example")
	}
	if l, e := Normal(rs(1<<30, 0, 0, 1<<30, 1<<30-1, 1)); e != api.OK || !same(l, rs(0, 1<<30)) {
		t.Error("the greatest range")
	}
	r := rand.New(rand.NewSource(1))
	for range 2000 {
		a, b := random(r), random(r)
		sa, sb := set(a), set(b)
		var or, not, and [32]bool
		for i := range sa {
			or[i], not[i], and[i] = sa[i] || sb[i], sa[i] && !sb[i], sa[i] && sb[i]
		}
		n, e1 := Normal(a)
		u, e2 := Union(a, b)
		d, e3 := Minus(a, b)
		m, e4 := Meet(a, b)
		if e1 != api.OK || e2 != api.OK || e3 != api.OK || e4 != api.OK || !same(n, fromSet(sa)) || !same(u, fromSet(or)) || !same(d, fromSet(not)) || !same(m, fromSet(and)) {
			t.Fatalf("%v and %v: %v, %v, %v, %v", a, b, n, u, d, m)
		}
	}
	for _, l := range invalid() {
		for _, f := range []func(a, b list) (list, api.Errno){Union, Minus, Meet} {
			if x, e := f(l, nil); x != nil || e != api.ErrRange {
				t.Errorf("%v first", l)
			}
			if x, e := f(rs(0, 1), l); x != nil || e != api.ErrRange {
				t.Errorf("%v second", l)
			}
		}
		if x, e := Normal(l); x != nil || e != api.ErrRange {
			t.Errorf("Normal of %v", l)
		}
		if n, e := Count(l); n != 0 || e != api.ErrRange {
			t.Errorf("Count of %v", l)
		}
		if n, e := First(l, 0); n != 0 || e != api.ErrRange {
			t.Errorf("First of %v", l)
		}
		if x, e := Take(l, 1); x != nil || e != api.ErrRange {
			t.Errorf("Take of %v", l)
		}
	}
}

func TestArgumentsStay(t *testing.T) {
	a := rs(5, 2, 0, 9, 3, 1)
	b := slices.Clone(a)
	Union(a, a)
	Take(a, 2)
	if !same(a, b) {
		t.Error("an argument is modified")
	}
	if x, _ := Normal(rs(1, 2)); len(x) == 1 {
		x[0].Start = 9
	}
}

// P3.2
func TestHasEqualCount(t *testing.T) {
	l := rs(-5, 20, 3, 2, 4, 4)
	for n := -6; n < 20; n++ {
		if Has(l, n) != (n >= 3 && n < 8) {
			t.Errorf("Has %d", n)
		}
	}
	if Has(nil, 0) || Has(rs(3, 0), 3) {
		t.Error("Has of nothing")
	}
	if !Equal(nil, rs(7, 0)) || !Equal(rs(0, 2, 2, 2), rs(1, 3, 0, 1)) || Equal(rs(0, 2), rs(0, 3)) {
		t.Error("Equal")
	}
	for _, x := range invalid() {
		if Equal(x, x) || Equal(x, nil) || Equal(nil, x) {
			t.Errorf("Equal of %v", x)
		}
	}
	if n, e := Count(rs(0, 5, 3, 5, 9, 0)); n != 8 || e != api.OK {
		t.Error("Count")
	}
}

// P3.3
func TestFirstTake(t *testing.T) {
	l := rs(4, 3, 0, 2)
	if n, e := First(l, 3); n != 4 || e != api.OK {
		t.Error("First 3")
	}
	if n, e := First(l, 2); n != 0 || e != api.OK {
		t.Error("First 2")
	}
	if n, e := First(rs(9, 2, 4, 5), 7); n != 4 || e != api.OK {
		t.Error("First over a border")
	}
	if n, e := First(l, 4); n != 0 || e != api.ErrNone {
		t.Error("First 4")
	}
	for _, n := range []int{0, -1, math.MinInt} {
		if _, e := First(l, n); e != api.ErrRange {
			t.Errorf("First %d", n)
		}
	}
	if x, e := Take(l, 3); e != api.OK || !same(x, rs(0, 2, 4, 1)) {
		t.Error("Take 3")
	}
	if x, e := Take(l, 5); e != api.OK || !same(x, rs(0, 2, 4, 3)) {
		t.Error("Take 5")
	}
	if x, e := Take(l, 0); e != api.OK || len(x) != 0 {
		t.Error("Take 0")
	}
	if x, e := Take(l, 6); e != api.ErrNone || x != nil {
		t.Error("Take 6")
	}
	if _, e := Take(l, -1); e != api.ErrRange {
		t.Error("Take -1")
	}
}

// P3.4
func TestLaws(t *testing.T) {
	r := rand.New(rand.NewSource(2))
	for range 500 {
		a, b, c := random(r), random(r), random(r)
		u, _ := Union(a, b)
		m, _ := Meet(a, b)
		nu, _ := Count(u)
		nm, _ := Count(m)
		na, _ := Count(a)
		nb, _ := Count(b)
		if nu+nm != na+nb {
			t.Fatalf("counts of %v and %v", a, b)
		}
		d, _ := Minus(a, b)
		back, _ := Union(d, m)
		if !Equal(back, a) {
			t.Fatalf("Minus and Meet of %v and %v", a, b)
		}
		x, _ := Meet(u, c)
		y, _ := Meet(a, c)
		z, _ := Meet(b, c)
		w, _ := Union(y, z)
		if !Equal(x, w) {
			t.Fatalf("distribution of %v, %v, %v", a, b, c)
		}
	}
}
