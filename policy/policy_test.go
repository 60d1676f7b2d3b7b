package policy

import (
	"math"
	"slices"
	"testing"

	"volumegroup/api"
	"volumegroup/model"
	"volumegroup/space"
)

func area(disk string, start int) api.Area { return api.Area{On: disk, Start: start} }

// group has five disks of 10 extents: the volume near is on a, ending at 3, and striped on b and c, ending at 2 and 6.
func group(t *testing.T) api.Group {
	t.Helper()
	g := api.Group{Name: "vg", Extent: 4, Next: 9}
	for i, d := range []api.Disk{{Name: "a", Tags: []string{"site=1", "ssd"}}, {Name: "b", Tags: []string{"site=1"}}, {Name: "c", Tags: []string{"site=2"}}, {Name: "d", Tags: []string{"ssd"}}, {Name: "e"}} {
		d.ID, d.Extents = uint64(i+1), 10
		g.Disks = append(g.Disks, d)
	}
	g.Volumes = []api.Volume{
		{Name: "lin", ID: 10, Segments: []api.Segment{{Length: 2, Kind: api.SegLinear, Areas: []api.Area{area("a", 1)}}}},
		{Name: "str", ID: 11, Segments: []api.Segment{{Length: 4, Kind: api.SegStriped, Chunk: 2, Areas: []api.Area{area("b", 0), area("c", 4)}}}},
		{Name: "gap", ID: 12, Segments: []api.Segment{{Length: 1, Kind: api.SegLinear, Areas: []api.Area{area("b", 7)}}}},
	}
	if place, e := model.Check(g); e != api.OK {
		t.Fatalf("the group: %s, %d", place, e)
	}
	return g
}

func rs(n ...int) []api.Range {
	var l []api.Range
	for i := 0; i < len(n); i += 2 {
		l = append(l, api.Range{Start: n[i], Length: n[i+1]})
	}
	return l
}

// P15.1
func TestCheck(t *testing.T) {
	g := group(t)
	ok := api.Request{Legs: 2, Stripes: 3, Extents: api.MaxExtents, Policy: api.Normal}
	if e := Check(g, ok); e != api.OK {
		t.Errorf("Check: %d", e)
	}
	for i, c := range []struct {
		f    func(r *api.Request)
		want api.Errno
	}{
		{func(r *api.Request) { r.Legs, r.Policy = 0, 0 }, api.ErrRange}, {func(r *api.Request) { r.Stripes = 0 }, api.ErrRange}, {func(r *api.Request) { r.Legs = 3 }, api.ErrRange}, {func(r *api.Request) { r.Legs = -1; r.Stripes = -1 }, api.ErrRange},
		{func(r *api.Request) { r.Legs, r.Stripes = 1<<32, 1<<32 }, api.ErrRange}, {func(r *api.Request) { r.Legs, r.Stripes = math.MinInt, math.MinInt }, api.ErrRange}, {func(r *api.Request) { r.Extents = 0 }, api.ErrRange}, {func(r *api.Request) { r.Extents = api.MaxExtents + 1 }, api.ErrRange},
		{func(r *api.Request) { r.Policy, r.Near = 0, "x" }, api.ErrKind}, {func(r *api.Request) { r.Policy = 6 }, api.ErrKind},
		{func(r *api.Request) { r.Near, r.Tag = "x", "-" }, api.ErrNone}, {func(r *api.Request) { r.Policy = api.Cling }, api.ErrNone}, {func(r *api.Request) { r.Policy = api.ClingTags }, api.ErrNone}, {func(r *api.Request) { r.Policy, r.Near = api.Cling, "lin" }, api.OK},
		{func(r *api.Request) { r.Tag = "-" }, api.ErrForm}, {func(r *api.Request) { r.Separate = "a b" }, api.ErrForm}, {func(r *api.Request) { r.Separate, r.Tag = "site=", "no" }, api.OK}, {func(r *api.Request) { r.Policy = api.Contiguous }, api.OK},
	} {
		r := ok
		c.f(&r)
		l, e := Permitted(g, r)
		if got := Check(g, r); got != c.want || e != c.want || e != api.OK && l != nil {
			t.Errorf("case %d: %d, %d", i, got, e)
		}
	}
	g.Name = ""
	if Check(g, api.Request{}) != api.ErrName {
		t.Error("the group comes first")
	}
}

// P15.2
func TestPermitted(t *testing.T) {
	all := [][]api.Range{rs(0, 1, 3, 7), rs(2, 5, 8, 2), rs(0, 4, 6, 4), rs(0, 10), rs(0, 10)}
	only := func(disks ...int) [][]api.Range {
		l := make([][]api.Range, 5)
		for _, d := range disks {
			l[d] = all[d]
		}
		return l
	}
	for i, c := range []struct {
		r    api.Request
		want [][]api.Range
	}{
		{api.Request{Policy: api.Normal}, all}, {api.Request{Policy: api.Anywhere, Near: "lin"}, all}, {api.Request{Policy: api.Contiguous}, all},
		{api.Request{Policy: api.Normal, Tag: "ssd"}, only(0, 3)}, {api.Request{Policy: api.Normal, Tag: "none"}, only()},
		{api.Request{Policy: api.Cling, Near: "str"}, only(1, 2)}, {api.Request{Policy: api.Cling, Near: "lin"}, only(0)}, {api.Request{Policy: api.Cling, Near: "str", Tag: "site=2"}, only(2)},
		{api.Request{Policy: api.ClingTags, Near: "lin"}, only(0, 1, 3)}, {api.Request{Policy: api.ClingTags, Near: "str"}, only(0, 1, 2)},
		{api.Request{Policy: api.Contiguous, Near: "lin"}, [][]api.Range{rs(3, 7), nil, nil, nil, nil}},
		{api.Request{Policy: api.Contiguous, Near: "str"}, [][]api.Range{nil, rs(2, 5), rs(6, 4), nil, nil}},
		{api.Request{Policy: api.Contiguous, Near: "str", Tag: "site=1"}, [][]api.Range{nil, rs(2, 5), nil, nil, nil}},
	} {
		c.r.Legs, c.r.Stripes, c.r.Extents = 1, 1, 1
		if l, e := Permitted(group(t), c.r); e != api.OK || !slices.EqualFunc(l, c.want, slices.Equal) {
			t.Errorf("case %d: %v, %d", i, l, e)
		}
	}
	g := group(t)
	g.Disks[0].Closed, g.Disks[4].Missing = true, true
	if l, _ := Permitted(g, api.Request{Legs: 1, Stripes: 1, Extents: 1, Policy: api.Anywhere}); !slices.EqualFunc(l, only(1, 2, 3), slices.Equal) {
		t.Errorf("closed and missing disks: %v", l)
	}
	if l, _ := Permitted(g, api.Request{Legs: 1, Stripes: 1, Extents: 1, Policy: api.Cling, Near: "lin"}); !slices.EqualFunc(l, only(), slices.Equal) {
		t.Errorf("a closed disk of Near: %v", l)
	}
	// An end that is not free, and one in the middle of a run.
	g = group(t)
	g.Volumes[2].Segments[0].Areas[0] = area("a", 3)
	if l, _ := Permitted(g, api.Request{Legs: 1, Stripes: 1, Extents: 1, Policy: api.Contiguous, Near: "lin"}); len(l[0]) != 0 {
		t.Errorf("behind an end that is used: %v", l)
	}
	g = group(t)
	g.Volumes[0].Segments = append(g.Volumes[0].Segments, api.Segment{Start: 2, Length: 1, Kind: api.SegZero})
	if l, _ := Permitted(g, api.Request{Legs: 1, Stripes: 1, Extents: 1, Policy: api.Contiguous, Near: "lin"}); len(l[0]) != 0 {
		t.Errorf("no ends: %v", l)
	}
}

// P15.3
func TestClass(t *testing.T) {
	g := group(t)
	for i, want := range []string{"site=1", "site=1", "site=2", "d ", "e "} {
		if c := Class(g, api.Request{Separate: "site="}, i); c != want {
			t.Errorf("class of %d: %q", i, c)
		}
	}
	for i, want := range []string{"a ", "b ", "c ", "d ", "e "} {
		if c := Class(g, api.Request{}, i); c != want {
			t.Errorf("class of %d without Separate: %q", i, c)
		}
	}
	if Class(g, api.Request{Separate: "s"}, 0) != "site=1" || Class(g, api.Request{}, 5) != "" || Class(g, api.Request{}, -1) != "" {
		t.Error("classes")
	}
}

// P15.4
func TestPermittedIsFree(t *testing.T) {
	g := group(t)
	for _, p := range []int{api.Normal, api.Anywhere} {
		l, _ := Permitted(g, api.Request{Legs: 1, Stripes: 1, Extents: 1, Policy: p})
		for i, d := range g.Disks {
			if free, _ := space.Free(g, d.Name); !slices.Equal(free, l[i]) {
				t.Errorf("disk %d: %v, not %v", i, l[i], free)
			}
		}
	}
}
