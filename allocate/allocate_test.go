package allocate

import (
	"math"
	"math/rand"
	"slices"
	"strconv"
	"testing"

	"volumegroup/api"
	"volumegroup/model"
)

func area(disk string, start int) api.Area { return api.Area{On: disk, Start: start} }

// group has disks a, b, c .. on which only the extents in the strings that are blanks are free.
func group(t *testing.T, disks ...string) api.Group {
	t.Helper()
	g := api.Group{Name: "vg", Extent: 4}
	v := api.Volume{Name: "used", ID: 99}
	for i, s := range disks {
		name := string(rune('a' + i))
		g.Disks = append(g.Disks, api.Disk{Name: name, ID: uint64(i + 1), Extents: len(s)})
		for k := range s {
			if s[k] != ' ' {
				v.Segments = append(v.Segments, api.Segment{Start: len(v.Segments), Length: 1, Kind: api.SegLinear, Areas: []api.Area{area(name, k)}})
			}
		}
	}
	if len(v.Segments) > 0 {
		g.Volumes = []api.Volume{v}
	}
	if place, e := model.Check(g); e != api.OK {
		t.Fatalf("the group: %s, %d", place, e)
	}
	return g
}

func request(legs, stripes, extents, policy int) api.Request {
	return api.Request{Legs: legs, Stripes: stripes, Extents: extents, Policy: policy}
}

func parts(l ...[]api.Area) [][]api.Area { return l }

func one(l ...api.Area) []api.Area { return l }

func sites(g api.Group, tags ...string) api.Group {
	for i, t := range tags {
		if t != "" {
			g.Disks[i].Tags = []string{t}
		}
	}
	return g
}

// P16.1, P16.4
func TestHolds(t *testing.T) {
	g := group(t, "  xxx     ", "    ")
	separate := request(2, 1, 2, api.Normal)
	separate.Separate = "s"
	for i, c := range []struct {
		r    api.Request
		l    [][]api.Area
		want bool
	}{
		{request(1, 1, 4, api.Normal), parts(one(area("a", 0), area("a", 5))), true},
		{request(1, 1, 4, api.Normal), parts(one(area("a", 6))), true},
		{request(1, 1, 4, api.Normal), parts(one(area("a", 7), area("b", 3))), true},
		{request(1, 1, 4, api.Normal), parts(one(area("a", 7), area("a", 8))), false},
		{request(1, 1, 4, api.Normal), parts(one(area("a", 7))), false},
		{request(1, 1, 4, api.Normal), parts(one(area("b", 0), area("a", 0))), false},
		{request(1, 1, 4, api.Normal), parts(one(area("b", 4))), false},
		{request(1, 1, 4, api.Normal), parts(one(area("b", -1))), false},
		{request(1, 1, 4, api.Normal), parts(one(area("c", 0))), false},
		{request(1, 1, 4, api.Normal), parts(one(area("a", 2))), false},
		{request(1, 1, 4, api.Normal), parts(one(api.Area{Volume: true, On: "b"})), false},
		{request(1, 1, 4, api.Normal), parts(one()), false},
		{request(1, 1, 4, api.Normal), nil, false},
		{request(1, 1, 4, api.Normal), parts(one(area("b", 0)), one(area("a", 5))), false},
		{request(1, 1, 4, api.Contiguous), parts(one(area("a", 5))), true},
		{request(1, 1, 4, api.Contiguous), parts(one(area("a", 0), area("a", 5))), false},
		{request(2, 1, 2, api.Normal), parts(one(area("a", 0)), one(area("b", 1))), true},
		{request(2, 1, 2, api.Normal), parts(one(area("a", 0)), one(area("a", 5))), false},
		{request(2, 1, 2, api.Anywhere), parts(one(area("a", 0)), one(area("a", 5))), true},
		{request(2, 1, 2, api.Anywhere), parts(one(area("a", 5)), one(area("a", 6))), false},
		{request(2, 1, 2, api.Anywhere), parts(one(area("a", 5)), one(area("a", 7))), true},
		{request(2, 1, 2, api.Normal), parts(one(area("a", 0)), one(area("b", 0), area("b", 1))), false},
		{request(2, 1, 4, api.Normal), parts(one(area("a", 5)), one(area("b", 0))), true},
		{request(2, 1, 3, api.Normal), parts(one(area("a", 0)), one(area("b", 0))), false},
		{separate, parts(one(area("a", 0)), one(area("b", 1))), true},
		{request(0, 1, 3, api.Normal), nil, false},
	} {
		if Holds(g, c.r, c.l) != c.want {
			t.Errorf("case %d", i)
		}
	}
	if Holds(sites(g, "s1", "s1"), separate, parts(one(area("a", 0)), one(area("b", 1)))) {
		t.Error("two parts of one class")
	}
}

// P16.2
func TestAllocate(t *testing.T) {
	example := group(t, "  xxx     ")
	three := group(t, " x  x   ", "     x  ", "xx  x xxx")
	separate := request(2, 1, 2, api.Normal)
	separate.Separate = "s"
	for i, c := range []struct {
		g    api.Group
		r    api.Request
		want [][]api.Area
		e    api.Errno
	}{
		{example, request(1, 1, 4, api.Normal), parts(one(area("a", 0), area("a", 5))), api.OK},
		{example, request(1, 1, 2, api.Normal), parts(one(area("a", 0))), api.OK},
		{example, request(1, 1, 7, api.Anywhere), parts(one(area("a", 0), area("a", 5))), api.OK},
		{example, request(1, 1, 8, api.Normal), nil, api.ErrSpace},
		{example, request(1, 1, 4, api.Contiguous), parts(one(area("a", 5))), api.OK},
		{example, request(1, 1, 2, api.Contiguous), parts(one(area("a", 0))), api.OK},
		{example, request(1, 1, 6, api.Contiguous), nil, api.ErrSpace},
		{example, request(2, 1, 2, api.Normal), nil, api.ErrSpace},
		{example, request(2, 1, 2, api.Anywhere), parts(one(area("a", 0)), one(area("a", 5))), api.OK},
		{example, request(1, 3, 2, api.Anywhere), parts(one(area("a", 0)), one(area("a", 5)), one(area("a", 7))), api.OK},
		{three, request(1, 1, 2, api.Contiguous), parts(one(area("a", 2))), api.OK},
		{three, request(1, 1, 3, api.Contiguous), parts(one(area("a", 5))), api.OK},
		{three, request(1, 1, 4, api.Contiguous), parts(one(area("b", 0))), api.OK},
		{three, request(1, 3, 2, api.Normal), parts(one(area("a", 2)), one(area("b", 0)), one(area("c", 2))), api.OK},
		{three, request(2, 1, 3, api.Contiguous), parts(one(area("a", 5)), one(area("b", 0))), api.OK},
		{three, request(3, 1, 3, api.Normal), nil, api.ErrSpace},
		{three, request(4, 1, 2, api.Normal), nil, api.ErrSpace},
		{sites(group(t, "  ", "  ", "  "), "s1", "s1", "s2"), separate, parts(one(area("a", 0)), one(area("c", 0))), api.OK},
		{example, request(7, 1, 1, api.Normal), nil, api.ErrRange},
		{example, request(1, 1, 1, 9), nil, api.ErrKind},
	} {
		if l, e := Allocate(c.g, c.r); e != c.e || !slices.EqualFunc(l, c.want, slices.Equal) {
			t.Errorf("case %d: %v, %d", i, l, e)
		}
	}
}

// P16.3, P16.4
func TestRefuse(t *testing.T) {
	example := group(t, "  xxx     ")
	sited := sites(group(t, "   ", "   ", "  x  "), "s1", "s1")
	separate := request(3, 1, 2, api.Normal)
	separate.Separate = "s"
	for i, c := range []struct {
		g    api.Group
		r    api.Request
		want api.Refusal
		e    api.Errno
	}{
		{example, request(1, 1, 8, api.Normal), api.Refusal{Kind: api.RefuseTotal, Have: 7, Need: 8}, api.OK},
		{example, request(1, 1, 7, api.Normal), api.Refusal{}, api.ErrNone},
		{example, request(1, 1, 6, api.Contiguous), api.Refusal{Kind: api.RefuseRun, Have: 5, Need: 6}, api.OK},
		{group(t, "x"), request(1, 1, 1, api.Contiguous), api.Refusal{Kind: api.RefuseRun, Have: 0, Need: 1}, api.OK},
		{example, request(2, 1, 2, api.Normal), api.Refusal{Kind: api.RefuseCount, Have: 1, Need: 2}, api.OK},
		{example, request(4, 1, 2, api.Anywhere), api.Refusal{Kind: api.RefuseCount, Have: 3, Need: 4}, api.OK},
		{sited, separate, api.Refusal{Kind: api.RefuseCount, Have: 2, Need: 3}, api.OK},
		{sited, request(2, 2, 2, api.Normal), api.Refusal{Kind: api.RefuseCount, Have: 3, Need: 4}, api.OK},
		{example, request(1, 1, 0, api.Normal), api.Refusal{}, api.ErrRange},
	} {
		x, e := Refuse(c.g, c.r)
		if x != c.want || e != c.e {
			t.Errorf("case %d: %v, %d", i, x, e)
		}
		if Justified(c.g, c.r, c.want) != (c.e == api.OK) {
			t.Errorf("case %d: Justified", i)
		}
		c.want.Have++
		if Justified(c.g, c.r, c.want) {
			t.Errorf("case %d: Justified of another refusal", i)
		}
	}
}

// possible reports whether any allocation holds, by trying places for each of several parts.
func possible(g api.Group, r api.Request, l [][]api.Area) bool {
	if len(l) == r.Legs*r.Stripes {
		return Holds(g, r, l)
	}
	for _, d := range g.Disks {
		for at := range d.Extents {
			if possible(g, r, append(l, []api.Area{area(d.Name, at)})) {
				return true
			}
		}
	}
	return false
}

// P16.5
func TestExactlyOne(t *testing.T) {
	r := rand.New(rand.NewSource(1))
	for range 400 {
		var disks []string
		for range 1 + r.Intn(3) {
			b := make([]byte, 1+r.Intn(8))
			for i := range b {
				b[i] = "  x"[r.Intn(3)]
			}
			disks = append(disks, string(b))
		}
		g := group(t, disks...)
		for i := range g.Disks {
			g.Disks[i].Tags = []string{"s" + strconv.Itoa(r.Intn(2))}
		}
		q := request(1+r.Intn(3), 1, 1+r.Intn(4), []int{api.Contiguous, api.Normal, api.Anywhere}[r.Intn(3)])
		if r.Intn(2) == 0 {
			q.Separate = "s"
		}
		l, e := Allocate(g, q)
		x, e2 := Refuse(g, q)
		if (e == api.OK) == (e2 == api.OK) || e != api.OK && e != api.ErrSpace || e2 != api.OK && e2 != api.ErrNone {
			t.Fatalf("Allocate %d and Refuse %d", e, e2)
		}
		if e == api.OK && !Holds(g, q, l) || e2 == api.OK && x.Have >= x.Need {
			t.Fatalf("%q, %v: %v, %v", disks, q, l, x)
		}
		if e != api.OK && (q.Legs > 1 || q.Policy == api.Contiguous) && possible(g, q, nil) {
			t.Fatalf("%q, %v: refused without need", disks, q)
		}
	}
}

// P1
func TestTotality(t *testing.T) {
	g := group(t, "  ")
	Holds(g, request(1, 1, 1, api.Normal), parts(one(area("a", math.MaxInt), area("a", math.MinInt))))
	Holds(api.Group{}, api.Request{}, nil)
	Justified(api.Group{}, api.Request{}, api.Refusal{})
}
