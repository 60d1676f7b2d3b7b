package archive

import (
	"slices"
	"testing"

	"volumegroup/activate"
	"volumegroup/api"
	"volumegroup/describe"
	"volumegroup/disk"
	"volumegroup/execute"
	"volumegroup/model"
)

func group(seq int) api.Group {
	g := api.Group{Name: "vg", ID: 5, Seq: seq, Extent: 4, Next: 20}
	for i, n := range []string{"a", "b", "c"} {
		g.Disks = append(g.Disks, api.Disk{Name: n, ID: uint64(i + 1), First: 100, Extents: 50})
	}
	on := func(d string, n int) []api.Segment {
		return []api.Segment{{Length: n, Kind: api.SegLinear, Areas: []api.Area{{On: d}}}}
	}
	vols := func(l ...string) (a []api.Area) {
		for _, n := range l {
			a = append(a, api.Area{Volume: true, On: n})
		}
		return a
	}
	g.Volumes = []api.Volume{
		{Name: "m", ID: 10, Segments: []api.Segment{{Length: 2, Kind: api.SegMirror, Chunk: 4, Areas: vols("m_leg0", "m_leg1"), Log: "m_log"}}},
		{Name: "m_leg0", ID: 11, Hidden: true, Segments: on("a", 2)}, {Name: "m_leg1", ID: 12, Hidden: true, Segments: on("b", 2)}, {Name: "m_log", ID: 13, Hidden: true, Segments: on("c", 1)},
	}
	return g
}

func is(t *testing.T, e, want api.Errno, what string) {
	t.Helper()
	if e != want {
		t.Errorf("%s: %d, not %d", what, e, want)
	}
}

// P38.1
func TestAddPruneFind(t *testing.T) {
	l, e := Add(nil, group(3))
	is(t, e, api.OK, "Add")
	l5, e := Add(l, group(5))
	is(t, e, api.OK, "Add")
	if len(l) != 1 || len(l5) != 2 || l5[1].Seq != 5 {
		t.Error("Add appends")
	}
	text, _ := describe.Text(group(5))
	if l5[1].Text != text {
		t.Error("the text")
	}
	bad := []api.Archived{{Seq: 5}, {Seq: 5}}
	many := make([]api.Archived, 65)
	for i := range many {
		many[i].Seq = i
	}
	broken := group(9)
	broken.Name = ""
	for i, c := range []struct {
		l    []api.Archived
		g    api.Group
		want api.Errno
	}{{bad, group(9), api.ErrForm}, {many, group(99), api.ErrForm}, {l5, group(5), api.ErrTwice}, {l5, group(4), api.ErrTwice}, {many[:64], group(63), api.ErrTwice}, {many[:64], broken, api.ErrTwice}, {many[:64], group(64), api.ErrLimit}, {l5, broken, api.ErrName}} {
		if x, e := Add(c.l, c.g); e != c.want || x != nil {
			t.Errorf("Add %d: %d", i, e)
		}
	}
	for n, want := range map[int]int{0: 0, 1: 1, 2: 2, 9: 2} {
		if x, e := Prune(l5, n); e != api.OK || len(x) != want || want == 1 && x[0].Seq != 5 {
			t.Errorf("Prune(%d): %v", n, x)
		}
	}
	_, e1 := Prune(bad, -1)
	_, e2 := Prune(l5, -1)
	_, e3 := Find(bad, 5)
	_, e4 := Find(l5, 4)
	_, e5 := Find([]api.Archived{{Seq: 7, Text: text}}, 7)
	_, e6 := Find([]api.Archived{{Seq: 7, Text: "x"}}, 7)
	_, e7 := Find(nil, 0)
	for i, c := range []struct{ got, want api.Errno }{{e1, api.ErrForm}, {e2, api.ErrRange}, {e3, api.ErrForm}, {e4, api.ErrNone}, {e5, api.ErrConflict}, {e6, api.ErrSyntax}, {e7, api.ErrNone}} {
		is(t, c.got, c.want, "error "+string(rune('1'+i)))
	}
	if g, e := Find(l5, 3); e != api.OK || !model.Same(g, group(3)) {
		t.Error("Find")
	}
}

// P38.2
func TestFitsMerge(t *testing.T) {
	for i, c := range []struct {
		f    func(now, old *api.Group)
		want api.Errno
	}{
		{func(now, old *api.Group) {}, api.OK}, {func(now, old *api.Group) { now.Name = ""; old.Extent = 0 }, api.ErrName}, {func(now, old *api.Group) { old.Extent = 0 }, api.ErrRange}, {func(now, old *api.Group) { now.Name = "x" }, api.ErrKind}, {func(now, old *api.Group) { now.ID = 9 }, api.ErrKind}, {func(now, old *api.Group) { now.Extent = 8 }, api.ErrKind},
		{func(now, old *api.Group) { now.Disks[0].ID = 99 }, api.ErrNone}, {func(now, old *api.Group) { now.Disks, now.Volumes = now.Disks[1:], nil }, api.ErrNone}, {func(now, old *api.Group) { now.Disks[1].First = 104 }, api.ErrSize}, {func(now, old *api.Group) { now.Disks[1].Extents = 49 }, api.ErrSize}, {func(now, old *api.Group) { now.Disks[1].Extents = 51 }, api.OK}, {func(now, old *api.Group) {
			old.Disks = append(old.Disks, api.Disk{Name: "d", ID: 4})
		}, api.ErrNone},
	} {
		now, old := group(9), group(3)
		c.f(&now, &old)
		g, e := Merge(now, old)
		if Fits(now, old) != c.want || e != c.want || e != api.OK && !model.Same(g, api.Group{}) {
			t.Errorf("case %d: %d, %d", i, Fits(now, old), e)
		}
	}
	now, old := group(9), group(3)
	now.Next, now.Tags, old.Tags = 30, []string{"now"}, []string{"old"}
	now.Disks[0].Tags = []string{"x"}
	now.Disks = append(now.Disks, api.Disk{Name: "d", ID: 4})
	now.History = []api.Removed{{Name: "gone"}}
	g, e := Merge(now, old)
	if e != api.OK || g.Seq != 9 || g.Next != 30 || len(g.Disks) != 4 || !slices.Equal(g.Tags, old.Tags) || len(g.History) != 0 || len(g.Disks[0].Tags) != 1 {
		t.Errorf("Merge: %v", g)
	}
	stale := func(f func(now, old *api.Group)) []int {
		now, old := group(9), group(3)
		f(&now, &old)
		g, e := Merge(now, old)
		if _, e2 := model.Check(g); e != api.OK || e2 != api.OK {
			t.Errorf("Merge: %d, %d", e, e2)
		}
		v, _ := model.Volume(g, "m")
		return v.Segments[0].Stale
	}
	for i, c := range []struct {
		f    func(now, old *api.Group)
		want []int
	}{
		{func(now, old *api.Group) { old.Volumes[0].Segments[0].Stale = []int{0} }, nil}, {func(now, old *api.Group) { now.Volumes[0].Segments[0].Stale = []int{1} }, []int{1}}, {func(now, old *api.Group) { now.Volumes = nil }, []int{1, 2}}, {func(now, old *api.Group) { now.Volumes = nil; old.Volumes[0].Segments[0].Stale = []int{0} }, []int{0, 2}}, {func(now, old *api.Group) { now.Volumes[0].ID = 99 }, []int{1, 2}},
		{func(now, old *api.Group) { now.Volumes[0].Segments[0].Chunk = 8 }, []int{1, 2}}, {func(now, old *api.Group) {
			now.Volumes, now.Volumes[0].Segments[0].Log = now.Volumes[:3], ""
		}, []int{1, 2}}, {func(now, old *api.Group) {
			now.Volumes, old.Volumes = nil, old.Volumes[:3]
			old.Volumes[0].Segments[0].Log = ""
		}, []int{1}}, {func(now, old *api.Group) { now.Disks[0].Missing = true }, []int{0}}, {func(now, old *api.Group) { now.Disks[2].Missing = true }, []int{2}},
	} {
		if got := stale(c.f); !slices.Equal(got, c.want) {
			t.Errorf("case %d: stale %v, not %v", i, got, c.want)
		}
	}
}

func started(t *testing.T) *activate.Stack {
	t.Helper()
	a, _ := disk.New([]int{2700, 2700, 2700})
	if _, e := activate.Init(a, "vg", 7, 4, 2100); e != api.OK {
		t.Fatal(e)
	}
	s, e := activate.Start(a, 7)
	if e != api.OK {
		t.Fatal(e)
	}
	return s
}

func do(t *testing.T, s *activate.Stack, c api.Command) {
	t.Helper()
	c.Policy = api.Normal
	if e := execute.Do(s, c); e != api.OK {
		t.Fatalf("command %d: %d", c.Kind, e)
	}
}

// P38.3
func TestRestore(t *testing.T) {
	s := started(t)
	do(t, s, api.Command{Kind: api.CmdLinear, Volume: "x", Extents: 3})
	do(t, s, api.Command{Kind: api.CmdMirror, Volume: "m", Extents: 2, Parts: 2, Chunk: 4})
	for at := range 8 {
		s.Write("x", at, uint64(at+1))
		s.Write("m", at, uint64(at+100))
	}
	old := s.Group()
	l, e := Add(nil, old)
	is(t, e, api.OK, "Add")
	do(t, s, api.Command{Kind: api.CmdRemove, Volume: "x"})
	do(t, s, api.Command{Kind: api.CmdRename, Volume: "m", Other: "n"})
	is(t, Restore(s, l, 99), api.ErrNone, "no description")
	is(t, Restore(s, l, old.Seq), api.OK, "Restore")
	for at := range 8 {
		if v, e := s.Read("x", at); v != uint64(at+1) || e != api.OK {
			t.Errorf("sector %d of x is %d, %d", at, v, e)
		}
		if v, e := s.Read("m", at); v != uint64(at+100) || e != api.OK {
			t.Errorf("sector %d of m is %d, %d", at, v, e)
		}
	}
	if v, _ := model.Volume(s.Group(), "m"); len(v.Segments[0].Stale) != 1 {
		t.Error("the second leg is not known to be equal")
	}
	// A leg fails while the description is restored.
	s.Write("m", 0, 5)
	s.Array().SetMissing(1, true)
	l, _ = Add(nil, s.Group())
	e = Restore(s, l, s.Group().Seq)
	if e != api.OK && e != api.ErrMissing {
		t.Errorf("Restore with a missing disk: %d", e)
	}
}

// P38.4
func TestRestoreAtOnce(t *testing.T) {
	s := started(t)
	do(t, s, api.Command{Kind: api.CmdMirror, Volume: "m", Extents: 2, Parts: 2, Chunk: 4, Number: 1})
	do(t, s, api.Command{Kind: api.CmdParity, Volume: "r", Extents: 2, Parts: 3, Chunk: 4})
	do(t, s, api.Command{Kind: api.CmdLegOn, Volume: "m"})
	old := s.Group()
	l, _ := Add(nil, old)
	if g, e := Find(l, old.Seq); e != api.OK || !model.Same(g, old) {
		t.Error("Find of what Add appended")
	}
	is(t, Restore(s, l, old.Seq), api.OK, "Restore")
	now := s.Group()
	if now.Seq <= old.Seq {
		t.Error("the number")
	}
	now.Seq = old.Seq
	if !model.Same(now, old) {
		t.Error("restoring at once changes something")
	}
}
