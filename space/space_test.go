package space

import (
	"math"
	"math/rand"
	"slices"
	"strconv"
	"testing"

	"volumegroup/api"
	"volumegroup/ranges"
)

func volume(name string, l ...api.Segment) api.Volume {
	return api.Volume{Name: name, Segments: l}
}

func segment(kind, length int, l ...api.Area) api.Segment {
	return api.Segment{Kind: kind, Length: length, Areas: l}
}

func on(disk string, start int) api.Area { return api.Area{On: disk, Start: start} }

func rs(n ...int) []api.Range {
	var l []api.Range
	for i := 0; i < len(n); i += 2 {
		l = append(l, api.Range{Start: n[i], Length: n[i+1]})
	}
	return l
}

func group() api.Group {
	return api.Group{
		Disks: []api.Disk{{Name: "a", Extents: 10}, {Name: "b", Extents: 20}, {Name: "c", Extents: 0}},
		Volumes: []api.Volume{
			volume("l", segment(api.SegLinear, 3, on("a", 2))),
			volume("s", segment(api.SegStriped, 6, on("a", 5), on("b", 0)), segment(api.SegZero, 4)),
			volume("m", segment(api.SegMove, 2, on("b", 10), on("b", 14)), segment(api.SegLinear, 1, on("b", 12))),
			volume("x", segment(api.SegMirror, 1, api.Area{Volume: true, On: "b"})),
			volume("s2", segment(api.SegStriped, 4, on("b", 16), on("b", 18))),
		},
	}
}

// P14.1
func TestUsedFree(t *testing.T) {
	g := group()
	for _, c := range []struct {
		disk       string
		used, free []api.Range
		want       api.Errno
	}{
		{"a", rs(2, 6), rs(0, 2, 8, 2), api.OK}, {"b", rs(0, 3, 10, 3, 14, 6), rs(3, 7, 13, 1), api.OK}, {"c", nil, nil, api.OK}, {"d", nil, nil, api.ErrNone}, {"l", nil, nil, api.ErrNone},
	} {
		u, e := Used(g, c.disk)
		f, e2 := Free(g, c.disk)
		if !slices.Equal(u, c.used) || !slices.Equal(f, c.free) || e != c.want || e2 != c.want {
			t.Errorf("disk %s: %v, %v, %d, %d", c.disk, u, f, e, e2)
		}
	}
	bad := api.Group{Disks: []api.Disk{{Name: "a", Extents: 10}, {Name: "a", Extents: 99}}, Volumes: []api.Volume{
		volume("v", segment(api.SegLinear, 5, on("a", 8)), segment(api.SegLinear, 1<<30, on("a", 1<<30)), segment(api.SegLinear, 1, on("q", 0)), segment(api.SegStriped, 9), segment(api.SegPool, 3, on("a", 0)), segment(api.SegLinear, 2, api.Area{Volume: true, On: "a"})),
		volume("w", segment(api.SegLinear, 4, on("a", 7))),
	}}
	if u, e := Used(bad, "a"); e != api.OK || !slices.Equal(u, rs(7, 3)) {
		t.Errorf("Used of a group that is not valid: %v", u)
	}
	if f, e := Free(bad, "a"); e != api.OK || !slices.Equal(f, rs(0, 7)) {
		t.Errorf("Free of a group that is not valid: %v", f)
	}
}

// P14.2
func TestTotalOwnerEnds(t *testing.T) {
	g := group()
	if u, f := Total(g); u != 18 || f != 12 {
		t.Errorf("Total: %d, %d", u, f)
	}
	if u, f := Total(api.Group{}); u != 0 || f != 0 {
		t.Error("Total of nothing")
	}
	for _, c := range []struct {
		disk   string
		extent int
		want   string
	}{{"a", 1, ""}, {"a", 2, "l"}, {"a", 4, "l"}, {"a", 5, "s"}, {"a", 7, "s"}, {"a", 8, ""}, {"b", 2, "s"}, {"b", 3, ""}, {"b", 11, "m"}, {"b", 12, "m"}, {"b", 15, "m"}, {"b", 19, "s2"}, {"b", 20, ""}, {"b", -1, ""}, {"d", 0, ""}, {"c", 0, ""}} {
		if n, ok := Owner(g, c.disk, c.extent); n != c.want || ok != (c.want != "") {
			t.Errorf("Owner of %d on %s: %q, %v", c.extent, c.disk, n, ok)
		}
	}
	two := api.Group{Disks: []api.Disk{{Name: "a", Extents: 4}}, Volumes: []api.Volume{volume("v", segment(api.SegLinear, 9, on("a", 2))), volume("w", segment(api.SegLinear, 9, on("a", 0)))}}
	if n, _ := Owner(two, "a", 2); n != "v" {
		t.Error("the first owner")
	}
	if _, ok := Owner(two, "a", 5); ok {
		t.Error("an extent behind the disk")
	}
	for name, want := range map[string][]api.Area{"l": {on("a", 5)}, "s": nil, "m": {on("b", 13)}, "x": nil, "s2": {on("b", 18), on("b", 20)}, "zz": nil} {
		if l := Ends(g, name); !slices.Equal(l, want) {
			t.Errorf("Ends of %s: %v", name, l)
		}
	}
	if Ends(api.Group{Volumes: []api.Volume{{Name: "v"}}}, "v") != nil {
		t.Error("Ends of a volume without segments")
	}
}

// P14.3
func TestDivision(t *testing.T) {
	r := rand.New(rand.NewSource(1))
	for range 200 {
		g := api.Group{Disks: []api.Disk{{Name: "a", Extents: r.Intn(30)}, {Name: "b", Extents: r.Intn(30)}}}
		for i := range r.Intn(6) {
			g.Volumes = append(g.Volumes, volume("v"+strconv.Itoa(i), segment(1+r.Intn(2)*7, r.Intn(9), on([]string{"a", "b"}[r.Intn(2)], r.Intn(30)), on("b", r.Intn(30)))))
		}
		for _, d := range g.Disks {
			u, _ := Used(g, d.Name)
			f, _ := Free(g, d.Name)
			all, _ := ranges.Union(u, f)
			both, _ := ranges.Meet(u, f)
			if !ranges.Equal(all, rs(0, d.Extents)) || len(both) > 0 {
				t.Fatalf("%v and %v of %d extents", u, f, d.Extents)
			}
			for x := range d.Extents {
				if _, ok := Owner(g, d.Name, x); ok != ranges.Has(u, x) {
					t.Fatalf("the owner of %d", x)
				}
			}
		}
	}
}

// P1
func TestTotality(t *testing.T) {
	for _, n := range []int{math.MinInt, -1, math.MaxInt} {
		g := api.Group{Disks: []api.Disk{{Name: "a", Extents: n}}, Volumes: []api.Volume{volume("v", segment(api.SegLinear, n, on("a", n)), segment(api.SegStriped, n))}}
		Used(g, "a")
		Free(g, "a")
		Total(g)
		Owner(g, "a", n)
		Ends(g, "v")
	}
}
