package model

import (
	"math"
	"slices"
	"strings"
	"testing"

	"volumegroup/api"
)

func linear(disk string, start, length int) []api.Segment {
	return []api.Segment{{Length: length, Kind: api.SegLinear, Areas: []api.Area{{On: disk, Start: start}}}}
}

func vols(names ...string) []api.Area {
	var l []api.Area
	for _, n := range names {
		l = append(l, api.Area{Volume: true, On: n})
	}
	return l
}

// group is a valid group with volumes of all kinds: extents of 4 sectors.
func group() api.Group {
	g := api.Group{Name: "vg", ID: 5, Seq: 1, Extent: 4, Next: 40, Tags: []string{"a", "b"}, History: []api.Removed{{Name: "old", ID: 9, Seq: 1}}}
	for i, n := range []string{"pv0", "pv1", "pv2"} {
		g.Disks = append(g.Disks, api.Disk{Name: n, ID: uint64(i + 1), First: 100, Extents: 100, Tags: []string{"t"}})
	}
	id := uint64(10)
	add := func(name string, hidden bool, l ...api.Segment) {
		g.Volumes = append(g.Volumes, api.Volume{Name: name, ID: id, Hidden: hidden, Segments: l})
		id++
	}
	add("lin", false, linear("pv0", 0, 2)[0], api.Segment{Start: 2, Length: 4, Kind: api.SegStriped, Chunk: 2, Areas: []api.Area{{On: "pv0", Start: 2}, {On: "pv1", Start: 2}}},
		api.Segment{Start: 6, Length: 1, Kind: api.SegZero}, api.Segment{Start: 7, Length: 1, Kind: api.SegError}, api.Segment{Start: 8, Length: 2, Kind: api.SegMove, Done: 1, Areas: []api.Area{{On: "pv0", Start: 4}, {On: "pv2", Start: 4}}})
	add("m", false, api.Segment{Length: 3, Kind: api.SegMirror, Chunk: 4, Areas: vols("m_leg0", "m_leg1"), Log: "m_log", Stale: []int{1, 2}})
	add("m_leg0", true, linear("pv0", 10, 3)...)
	add("m_leg1", true, linear("pv1", 10, 3)...)
	add("m_log", true, linear("pv2", 10, 1)...)
	add("r", false, api.Segment{Length: 4, Kind: api.SegParity, Chunk: 2, Areas: vols("r_leg0", "r_leg1", "r_leg2"), Stale: []int{2}})
	for i, n := range []string{"r_leg0", "r_leg1", "r_leg2"} {
		add(n, true, linear(g.Disks[i].Name, 20, 6)...)
	}
	add("p", false, api.Segment{Length: 5, Kind: api.SegPool, Chunk: 2, Areas: vols("p_meta", "p_data")})
	add("p_meta", true, linear("pv0", 30, 2)...)
	add("p_data", true, linear("pv1", 30, 5)...)
	add("t1", false, api.Segment{Length: 50, Kind: api.SegThin, Pool: "p", Device: 1})
	add("t2", false, api.Segment{Length: 50, Kind: api.SegThin, Pool: "p", Device: 2})
	add("c", false, api.Segment{Length: 6, Kind: api.SegCache, Chunk: 2, Mode: 2, Areas: vols("c_leg0", "c_data", "c_meta")})
	add("c_leg0", true, linear("pv0", 40, 6)...)
	add("c_data", true, linear("pv1", 40, 3)...)
	add("c_meta", true, linear("pv2", 40, 1)...)
	return g
}

// at is the volume with this name.
func at(g *api.Group, name string) *api.Volume {
	for i := range g.Volumes {
		if g.Volumes[i].Name == name {
			return &g.Volumes[i]
		}
	}
	return &api.Volume{Segments: make([]api.Segment, 1)}
}

func seg(g *api.Group, name string) *api.Segment { return &at(g, name).Segments[0] }

type change struct {
	place  string
	want   api.Errno
	change func(g *api.Group)
}

func tryAll(t *testing.T, l []change) {
	t.Helper()
	for i, c := range l {
		g := group()
		c.change(&g)
		if place, e := Check(g); place != c.place || e != c.want {
			t.Errorf("change %d: %q, %d, not %q, %d", i, place, e, c.place, c.want)
		}
	}
}

// P9.1, rules 1 to 3
func TestCheckNames(t *testing.T) {
	nine := []string{"a", "b", "c", "d", "e", "f", "g", "h", "i"}
	tryAll(t, []change{
		{"", api.OK, func(g *api.Group) {}},
		{"", api.OK, func(g *api.Group) {
			g.Seq, g.Next, g.Tags, g.History = api.MaxSeq, 1<<30, nine[:8], make([]api.Removed, 32)
			for i := range g.History {
				g.History[i].Name = "x"
			}
		}},
		{"", api.ErrName, func(g *api.Group) { g.Name, g.Seq = "x_log", -1 }},
		{"", api.ErrName, func(g *api.Group) { g.Name = "" }},
		{"", api.ErrRange, func(g *api.Group) { g.Seq = -1 }},
		{"", api.ErrRange, func(g *api.Group) { g.Seq = api.MaxSeq + 1 }},
		{"", api.ErrRange, func(g *api.Group) { g.Extent = 0 }},
		{"", api.ErrRange, func(g *api.Group) { g.Extent, g.Tags = 1025, nine }},
		{"", api.ErrRange, func(g *api.Group) { g.Next = -1 }},
		{"", api.ErrRange, func(g *api.Group) { g.Next = 1<<30 + 1 }},
		{"", api.ErrLimit, func(g *api.Group) { g.Disks = make([]api.Disk, 9) }},
		{"", api.ErrLimit, func(g *api.Group) { g.Volumes = make([]api.Volume, 33) }},
		{"", api.ErrLimit, func(g *api.Group) { g.History = make([]api.Removed, 33) }},
		{"", api.ErrLimit, func(g *api.Group) { g.Tags, g.History = nine, make([]api.Removed, 1) }},
		{"", api.ErrForm, func(g *api.Group) { g.Tags = []string{"a", "a"} }},
		{"", api.ErrForm, func(g *api.Group) { g.Tags = []string{"-"} }},
		{"", api.ErrForm, func(g *api.Group) { g.History[0].Name = "x_log"; g.Disks[0].Name = "" }},
		{"", api.ErrForm, func(g *api.Group) { g.History[0].Seq = -1 }},
		{"", api.ErrForm, func(g *api.Group) { g.History[0].Seq = api.MaxSeq + 1 }},
		{"pv0_leg1", api.ErrName, func(g *api.Group) { g.Disks[0].Name = "pv0_leg1"; g.Disks[1].ID = 1 }},
		{"pv0", api.ErrTwice, func(g *api.Group) { g.Disks[1].Name, g.Disks[1].First = "pv0", -1 }},
		{"pv2", api.ErrTwice, func(g *api.Group) { g.Disks[2].ID = 1 }},
		{"pv0", api.ErrRange, func(g *api.Group) { g.Disks[0].First = -1; g.Disks[1].Name = "" }},
		{"pv0", api.ErrRange, func(g *api.Group) { g.Disks[0].First = 65537; g.Disks[0].Extents = 0 }},
		{"pv0", api.ErrRange, func(g *api.Group) { g.Disks[0].Extents = -1 }},
		{"pv0", api.ErrRange, func(g *api.Group) { g.Disks[0].First = 0; g.Disks[0].Extents = 4097 }},
		{"pv0", api.ErrRange, func(g *api.Group) { g.Disks[0].First = 65536 - 399 }},
		{"pv0", api.ErrRange, func(g *api.Group) { g.Disks[0].Extents = math.MaxInt }},
		{"", api.OK, func(g *api.Group) { g.Disks[0].First = 65536 - 400 }},
		{"pv1", api.ErrLimit, func(g *api.Group) { g.Disks[1].Tags = nine }},
		{"pv1", api.ErrForm, func(g *api.Group) { g.Disks[1].Tags = []string{"b", "a"} }},
		{"x_leg0", api.ErrName, func(g *api.Group) { at(g, "lin").Name = "x_leg0" }},
		{"x", api.ErrName, func(g *api.Group) { at(g, "m_leg0").Name = "x" }},
		{"lin", api.ErrTwice, func(g *api.Group) { at(g, "m").Name = "lin" }},
		{"m", api.ErrTwice, func(g *api.Group) { at(g, "m").ID = 10 }},
		{"m", api.ErrLimit, func(g *api.Group) { at(g, "m").Segments = nil }},
		{"m", api.ErrLimit, func(g *api.Group) { at(g, "m").Segments = make([]api.Segment, 65) }},
		{"m", api.ErrLimit, func(g *api.Group) { at(g, "m").Tags = nine }},
		{"m", api.ErrForm, func(g *api.Group) { at(g, "m").Tags = []string{"x y"}; seg(g, "lin").Kind = 0 }},
		{"", api.OK, func(g *api.Group) { at(g, "m").Tags, at(g, "m").ReadOnly = nine[:8], true }},
	})
}

// P9.1, rule 4
func TestCheckForms(t *testing.T) {
	form := func(name string, f func(s *api.Segment)) change {
		return change{name, api.ErrForm, func(g *api.Group) { f(seg(g, name)) }}
	}
	l := []change{
		form("lin", func(s *api.Segment) { s.Start = 1 }), form("lin", func(s *api.Segment) { s.Length = 0 }), form("t1", func(s *api.Segment) { s.Length = 32769 }),
		form("t1", func(s *api.Segment) { s.Length = -1 }), form("lin", func(s *api.Segment) { s.Kind = 0 }), form("lin", func(s *api.Segment) { s.Kind = 11 }),
		form("lin", func(s *api.Segment) { s.Areas = append(s.Areas, s.Areas...) }), form("lin", func(s *api.Segment) { s.Areas = nil }),
		form("lin", func(s *api.Segment) { s.Areas = vols("lin") }), form("m", func(s *api.Segment) { s.Areas[1] = api.Area{On: "pv0"} }), form("m", func(s *api.Segment) { s.Areas[1].Start = 1 }),
		form("lin", func(s *api.Segment) { s.Chunk = 1 }), form("lin", func(s *api.Segment) { s.Stale = []int{0} }), form("lin", func(s *api.Segment) { s.Log = "m_log" }),
		form("lin", func(s *api.Segment) { s.Pool = "p" }), form("lin", func(s *api.Segment) { s.Device = 1 }), form("lin", func(s *api.Segment) { s.Mode = 1 }), form("lin", func(s *api.Segment) { s.Done = 1 }),
		form("m", func(s *api.Segment) { s.Areas = s.Areas[:1] }), form("m", func(s *api.Segment) { s.Areas = vols("a", "b", "c", "d", "e", "f", "g") }),
		form("m", func(s *api.Segment) { s.Chunk = 0 }), form("m", func(s *api.Segment) { s.Chunk = 1025 }), form("m", func(s *api.Segment) { s.Stale = []int{1, 1} }),
		form("m", func(s *api.Segment) { s.Stale = []int{3} }), form("m", func(s *api.Segment) { s.Stale = []int{-1} }), form("m", func(s *api.Segment) { s.Log = "" }), form("m", func(s *api.Segment) { s.Device = 1 }),
		form("r", func(s *api.Segment) { s.Areas = s.Areas[:2] }), form("r", func(s *api.Segment) { s.Chunk = 3 }), form("r", func(s *api.Segment) { s.Chunk = 8 }), form("r", func(s *api.Segment) { s.Chunk = 0 }), form("r", func(s *api.Segment) { s.Stale = []int{3} }), form("r", func(s *api.Segment) { s.Length = 5 }), form("r", func(s *api.Segment) { s.Log = "m_log" }),
		form("p", func(s *api.Segment) { s.Areas = s.Areas[:1] }), form("p", func(s *api.Segment) { s.Chunk = 65 }), form("p", func(s *api.Segment) { s.Chunk = 0 }), form("p", func(s *api.Segment) { s.Stale = []int{0} }),
		form("t1", func(s *api.Segment) { s.Device = 0 }), form("t1", func(s *api.Segment) { s.Device = 65536 }), form("t1", func(s *api.Segment) { s.Areas = vols("p") }), form("t1", func(s *api.Segment) { s.Chunk = 1 }),
		form("c", func(s *api.Segment) { s.Mode = 0 }), form("c", func(s *api.Segment) { s.Mode = 3 }), form("c", func(s *api.Segment) { s.Chunk = 65 }), form("c", func(s *api.Segment) { s.Chunk = 0 }), form("c", func(s *api.Segment) { s.Areas = s.Areas[:2] }), form("c", func(s *api.Segment) { s.Pool = "p" }),
		{"lin", api.ErrForm, func(g *api.Group) { at(g, "lin").Segments[1].Start = 3 }}, {"lin", api.ErrForm, func(g *api.Group) { at(g, "lin").Segments[1].Chunk = 3 }}, {"lin", api.ErrForm, func(g *api.Group) { at(g, "lin").Segments[1].Chunk = 0 }},
		{"lin", api.ErrForm, func(g *api.Group) { at(g, "lin").Segments[4].Done = 3 }}, {"lin", api.ErrForm, func(g *api.Group) { at(g, "lin").Segments[4].Done = -1 }}, {"lin", api.ErrForm, func(g *api.Group) { at(g, "lin").Segments[2].Areas = vols("m") }},
		{"lin", api.ErrForm, func(g *api.Group) {
			v := at(g, "lin")
			v.Segments = v.Segments[:2]
			v.Segments[1].Length = 3
		}},
		{"lin", api.ErrForm, func(g *api.Group) {
			v := at(g, "lin")
			v.Segments = v.Segments[:2]
			v.Segments[1].Areas = v.Segments[1].Areas[:1]
		}},
		{"t1", api.ErrKind, func(g *api.Group) {
			v := at(g, "t1")
			v.Segments = append(v.Segments, api.Segment{Start: 50, Length: 1, Kind: api.SegZero})
		}},
		{"lin", api.ErrKind, func(g *api.Group) {
			v := at(g, "lin")
			v.Segments = append(v.Segments, api.Segment{Start: 10, Length: 1, Kind: api.SegThin, Pool: "p", Device: 9})
		}},
		{"lin", api.ErrForm, func(g *api.Group) {
			v := at(g, "lin")
			v.Segments = append(v.Segments, api.Segment{Start: 10, Length: 1, Kind: api.SegThin, Pool: "p"})
		}},
		{"", api.OK, func(g *api.Group) { seg(g, "t1").Length, seg(g, "t1").Device = 32768, 65535 }},
		{"", api.OK, func(g *api.Group) { at(g, "lin").Segments[4].Done = 2 }},
	}
	tryAll(t, l)
}

// hidePool hides the pool and leaves it so many thin volumes.
func hidePool(g *api.Group, thins int) {
	for old, now := range map[string]string{"p": "x_leg0", "p_meta": "x_leg0_meta", "p_data": "x_leg0_data"} {
		at(g, old).Hidden, at(g, old).Name = true, now
	}
	seg(g, "x_leg0").Areas = vols("x_leg0_meta", "x_leg0_data")
	seg(g, "t1").Pool, seg(g, "t2").Pool = "x_leg0", "x_leg0"
	if thins == 1 {
		g.Volumes = slices.DeleteFunc(g.Volumes, func(v api.Volume) bool { return v.Name == "t2" })
	}
}

// P9.1, rules 5 to 8
func TestCheckReferences(t *testing.T) {
	tryAll(t, []change{
		{"lin", api.ErrNone, func(g *api.Group) { seg(g, "lin").Areas[0] = api.Area{On: "pv9", Start: -1} }},
		{"m", api.ErrNone, func(g *api.Group) { seg(g, "m").Areas[1].On = "x" }},
		{"m", api.ErrNone, func(g *api.Group) { seg(g, "m").Areas[1].On = "pv0" }},
		{"m", api.ErrNone, func(g *api.Group) { seg(g, "m").Log = "x" }},
		{"t1", api.ErrNone, func(g *api.Group) { seg(g, "t1").Pool = "" }},
		{"t1", api.ErrNone, func(g *api.Group) { seg(g, "t1").Pool = "x" }},
		{"lin", api.ErrRange, func(g *api.Group) { seg(g, "lin").Areas[0].Start = -1 }},
		{"lin", api.ErrRange, func(g *api.Group) { seg(g, "lin").Areas[0].Start = 99 }},
		{"lin", api.ErrRange, func(g *api.Group) { seg(g, "lin").Areas[0].Start = math.MaxInt }},
		{"", api.OK, func(g *api.Group) { seg(g, "lin").Areas[0].Start = 98 }},
		{"", api.OK, func(g *api.Group) { at(g, "lin").Segments[1].Areas[1].Start = 98 }},
		{"lin", api.ErrRange, func(g *api.Group) { at(g, "lin").Segments[1].Areas[1].Start = 99 }},
		{"lin", api.ErrRange, func(g *api.Group) { at(g, "lin").Segments[4].Areas[1].Start = 99 }},
		{"m", api.ErrName, func(g *api.Group) { s := seg(g, "m"); s.Areas[0], s.Areas[1] = s.Areas[1], s.Areas[0] }},
		{"m", api.ErrName, func(g *api.Group) { seg(g, "m").Log = "c_meta" }},
		{"p", api.ErrName, func(g *api.Group) { s := seg(g, "p"); s.Areas[0], s.Areas[1] = s.Areas[1], s.Areas[0] }},
		{"c", api.ErrName, func(g *api.Group) { seg(g, "c").Areas[0].On = "m_leg0" }},
		{"c", api.ErrName, func(g *api.Group) { s := seg(g, "c"); s.Areas[1], s.Areas[2] = s.Areas[2], s.Areas[1] }},
		{"t1", api.ErrKind, func(g *api.Group) { seg(g, "t1").Pool = "t2" }},
		{"t1", api.ErrKind, func(g *api.Group) { seg(g, "t1").Pool = "lin" }},
		{"m", api.ErrKind, func(g *api.Group) {
			*seg(g, "m_leg0") = api.Segment{Length: 3, Kind: api.SegThin, Pool: "p", Device: 3}
		}},
		{"m", api.ErrKind, func(g *api.Group) {
			*seg(g, "m_log") = api.Segment{Length: 3, Kind: api.SegThin, Pool: "p", Device: 3}
		}},
		{"m", api.ErrSize, func(g *api.Group) { seg(g, "m_leg1").Length = 4 }},
		{"m", api.ErrSize, func(g *api.Group) {
			seg(g, "m").Length, seg(g, "m").Chunk, seg(g, "m_leg0").Length, seg(g, "m_leg1").Length = 49, 1, 49, 49
			seg(g, "m_leg0").Areas[0].Start, seg(g, "m_leg1").Areas[0].Start = 50, 50
		}},
		{"", api.OK, func(g *api.Group) {
			seg(g, "m").Length, seg(g, "m").Chunk, seg(g, "m_leg0").Length, seg(g, "m_leg1").Length = 48, 1, 48, 48
			seg(g, "m_leg0").Areas[0].Start, seg(g, "m_leg1").Areas[0].Start = 50, 50
		}},
		{"r", api.ErrSize, func(g *api.Group) { seg(g, "r_leg1").Length = 7 }},
		{"r", api.ErrSize, func(g *api.Group) {
			seg(g, "r_leg0").Length, seg(g, "r_leg1").Length, seg(g, "r_leg2").Length = 5, 5, 5
		}},
		{"p", api.ErrSize, func(g *api.Group) { seg(g, "p").Length = 4 }},
		{"c", api.ErrSize, func(g *api.Group) { seg(g, "c").Length = 7 }},
		{"m_leg0", api.ErrOverlap, func(g *api.Group) { seg(g, "m_leg0").Areas[0].Start = 0 }},
		{"lin", api.ErrOverlap, func(g *api.Group) { at(g, "lin").Segments[4].Areas[1] = api.Area{On: "pv0", Start: 5} }},
		{"c_data", api.ErrOverlap, func(g *api.Group) { seg(g, "c_data").Areas[0].Start = 34 }},
		{"", api.OK, func(g *api.Group) { seg(g, "c_data").Areas[0].Start = 35 }},
		{"t2", api.ErrTwice, func(g *api.Group) { seg(g, "t2").Device = 1 }},
		{"x_leg0", api.ErrUse, func(g *api.Group) {
			g.Volumes = append(g.Volumes, api.Volume{Name: "x_leg0", ID: 99, Hidden: true, Segments: linear("pv0", 90, 1)})
		}},
		{"m_leg0", api.ErrUse, func(g *api.Group) { at(g, "m").Segments = linear("pv0", 90, 1) }},
		{"x_leg0", api.ErrUse, func(g *api.Group) { hidePool(g, 2) }},
		{"", api.OK, func(g *api.Group) { hidePool(g, 1) }},
	})
}

// P9.2
func TestLookups(t *testing.T) {
	g := group()
	g.Volumes = append(g.Volumes, api.Volume{Name: "lin"})
	g.Disks = append(g.Disks, api.Disk{Name: "pv0", ID: 77})
	v, ok := Volume(g, "lin")
	if !ok || len(v.Segments) != 5 {
		t.Fatal("Volume")
	}
	v.Segments[1].Areas[0].On = "x"
	if g.Volumes[0].Segments[1].Areas[0].On != "pv0" {
		t.Error("Volume shares memory")
	}
	if v, ok := Volume(g, "x"); ok || v.Name != "" {
		t.Error("no volume")
	}
	if d, ok := Disk(g, "pv0"); !ok || d.ID != 1 {
		t.Error("Disk")
	}
	if _, ok := Disk(g, "lin"); ok {
		t.Error("no disk")
	}
	if Length(v) != 10 || Length(api.Volume{}) != 0 || Sectors(g, "lin") != 40 || Sectors(g, "x") != 0 {
		t.Error("Length and Sectors")
	}
	odd := api.Volume{Name: "odd", Segments: []api.Segment{{Length: -5}, {Length: math.MaxInt}, {Length: math.MaxInt}}}
	if Length(odd) != 1<<30 || Sectors(api.Group{Extent: 2, Volumes: []api.Volume{odd}}, "odd") != 1<<30 || Sectors(api.Group{Extent: -2, Volumes: []api.Volume{odd}}, "odd") != 0 || Sectors(api.Group{Extent: math.MaxInt, Volumes: []api.Volume{odd}}, "odd") != 1<<30 {
		t.Error("limits")
	}
	for e, want := range map[int]int{0: 0, 1: 0, 2: 1, 5: 1, 6: 2, 7: 3, 9: 4} {
		if k, ok := SegmentAt(v, e); k != want || !ok {
			t.Errorf("SegmentAt(%d) is %d", e, k)
		}
	}
	for _, e := range []int{-1, 10, math.MaxInt, math.MinInt} {
		if k, ok := SegmentAt(v, e); k != 0 || ok {
			t.Errorf("SegmentAt(%d)", e)
		}
	}
	wild := api.Volume{Segments: []api.Segment{{Start: math.MinInt, Length: 5}, {Start: 3, Length: -1}, {Start: math.MaxInt - 1, Length: 9}}}
	if k, ok := SegmentAt(wild, math.MaxInt); k != 2 || !ok {
		t.Error("SegmentAt at the end of all numbers")
	}
	if _, ok := SegmentAt(wild, 3); ok {
		t.Error("SegmentAt with wild segments")
	}
	if Kind(v) != 0 || Kind(api.Volume{}) != 0 || Kind(*at(&g, "m")) != api.SegMirror {
		t.Error("Kind")
	}
}

// P9.3
func TestGraph(t *testing.T) {
	g := group()
	for _, c := range []struct {
		got  []string
		want string
	}{
		{Below(g, "m"), "m_leg0 m_leg1 m_log"}, {Below(g, "lin"), ""}, {Below(g, "x"), ""}, {Below(g, "t1"), "p p_meta p_data"},
		{Users(g, "p"), "t1 t2"}, {Users(g, "m_log"), "m"}, {Users(g, "m"), ""}, {Users(g, "x"), ""},
		{Needs(g, "m"), "pv0 pv1 pv2"}, {Needs(g, "m_leg1"), "pv1"}, {Needs(g, "t2"), "pv0 pv1"}, {Needs(g, "x"), ""}, {Needs(g, "lin"), "pv0 pv1 pv2"},
		{Order(g), "lin m_leg0 m_leg1 m_log m r_leg0 r_leg1 r_leg2 r p_meta p_data p t1 t2 c_leg0 c_data c_meta c"},
	} {
		if strings.Join(c.got, " ") != c.want {
			t.Errorf("%v, not %s", c.got, c.want)
		}
	}
	use := func(name string, on ...string) api.Volume {
		return api.Volume{Name: name, Segments: []api.Segment{{Areas: vols(on...)}}}
	}
	bad := api.Group{Volumes: []api.Volume{use("a", "b", "zz"), use("b", "c"), use("c", "a"), use("d", "e"), use("e", "zz"), use("e", "a"), use("f", "a")}}
	for _, c := range []struct {
		got  []string
		want string
	}{{Below(bad, "a"), "a b c"}, {Below(bad, "d"), "e"}, {Order(bad), "e d"}, {Users(bad, "a"), "c f"}, {Users(bad, "zz"), "a e"}} {
		if strings.Join(c.got, " ") != c.want {
			t.Errorf("%v, not %s", c.got, c.want)
		}
	}
	two := api.Group{Disks: []api.Disk{{Name: "p"}, {Name: "q"}, {Name: "p"}}, Volumes: []api.Volume{{Name: "v", Segments: []api.Segment{linear("q", 0, 1)[0], linear("p", 0, 1)[0], linear("p", 0, 1)[0], linear("none", 0, 1)[0]}}}}
	if got := Needs(two, "v"); !slices.Equal(got, []string{"p", "q"}) {
		t.Errorf("Needs is %v", got)
	}
}

func TestSame(t *testing.T) {
	if !Same(group(), group()) || !Same(api.Group{}, api.Group{Tags: []string{}, Disks: []api.Disk{}}) {
		t.Error("equal groups")
	}
	for i, f := range []func(g *api.Group){
		func(g *api.Group) { g.Name = "x" }, func(g *api.Group) { g.ID = 0 }, func(g *api.Group) { g.Seq = 0 }, func(g *api.Group) { g.Extent = 1 }, func(g *api.Group) { g.Next = 0 },
		func(g *api.Group) { g.Tags = nil }, func(g *api.Group) { g.Disks[0].Name = "x" }, func(g *api.Group) { g.Disks[0].ID = 0 }, func(g *api.Group) { g.Disks[0].First = 0 }, func(g *api.Group) { g.Disks[0].Extents = 0 },
		func(g *api.Group) { g.Disks[0].Closed = true }, func(g *api.Group) { g.Disks[0].Missing = true }, func(g *api.Group) { g.Disks[0].Tags = nil }, func(g *api.Group) { g.Disks = g.Disks[:1] },
		func(g *api.Group) { g.History[0].Seq = 0 }, func(g *api.Group) { g.History = nil }, func(g *api.Group) { g.Volumes = g.Volumes[1:] },
		func(g *api.Group) { g.Volumes[0].Name = "x" }, func(g *api.Group) { g.Volumes[0].ID = 0 }, func(g *api.Group) { g.Volumes[0].Hidden = true }, func(g *api.Group) { g.Volumes[0].ReadOnly = true }, func(g *api.Group) { g.Volumes[0].Tags = []string{"x"} },
		func(g *api.Group) { seg(g, "m").Start = 1 }, func(g *api.Group) { seg(g, "m").Length = 1 }, func(g *api.Group) { seg(g, "m").Kind = 1 }, func(g *api.Group) { seg(g, "m").Areas[0].On = "x" },
		func(g *api.Group) { seg(g, "m").Chunk = 1 }, func(g *api.Group) { seg(g, "m").Stale = nil }, func(g *api.Group) { seg(g, "m").Log = "" }, func(g *api.Group) { seg(g, "t1").Pool = "" },
		func(g *api.Group) { seg(g, "t1").Device = 5 }, func(g *api.Group) { seg(g, "c").Mode = 1 }, func(g *api.Group) { at(g, "lin").Segments[4].Done = 0 },
	} {
		g := group()
		f(&g)
		if Same(g, group()) || Same(group(), g) {
			t.Errorf("change %d", i)
		}
	}
}

// P9.4
func TestValidGroup(t *testing.T) {
	g := group()
	if len(Order(g)) != len(g.Volumes) {
		t.Error("Order leaves volumes out")
	}
	for _, v := range g.Volumes {
		if slices.Contains(Below(g, v.Name), v.Name) {
			t.Errorf("%s is below itself", v.Name)
		}
	}
}

// P1
func TestTotality(t *testing.T) {
	for _, g := range []api.Group{{}, {Volumes: []api.Volume{{}, {Name: "a", Segments: []api.Segment{{Kind: api.SegStriped, Length: -1}, {Kind: api.SegParity}}}}}} {
		Check(g)
		Below(g, "")
		Users(g, "")
		Needs(g, "")
		Order(g)
	}
}
