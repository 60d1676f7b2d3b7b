package plan

import (
	"math"
	"math/rand"
	"slices"
	"strconv"
	"strings"
	"testing"

	"volumegroup/api"
	"volumegroup/describe"
	"volumegroup/model"
	"volumegroup/names"
	"volumegroup/space"
)

// empty is a group with so many disks of 100 extents of 4 sectors.
func empty(disks int) api.Group {
	g := api.Group{Name: "vg", ID: 5, Seq: 3, Extent: 4, Next: 50}
	for i := range disks {
		g.Disks = append(g.Disks, api.Disk{Name: "pv" + strconv.Itoa(i), ID: uint64(i + 1), First: 100, Extents: 100})
	}
	return g
}

func plan(t *testing.T, g api.Group, c api.Command) (api.Group, []api.Act, []api.Act) {
	t.Helper()
	if c.Policy == 0 {
		c.Policy = api.Normal
	}
	before, _ := describe.Text(g)
	n, ahead, behind, e := Plan(g, c)
	if e != api.OK {
		t.Fatalf("command %d of %q: %d", c.Kind, c.Volume, e)
	}
	if after, _ := describe.Text(g); after != before {
		t.Fatalf("command %d changes its argument", c.Kind)
	}
	if place, e := model.Check(n); e != api.OK {
		t.Fatalf("command %d: the result is not valid: %s, %d", c.Kind, place, e)
	}
	return n, ahead, behind
}

// all does commands one after the other.
func all(t *testing.T, g api.Group, l ...api.Command) api.Group {
	t.Helper()
	for _, c := range l {
		g, _, _ = plan(t, g, c)
	}
	return g
}

func refused(t *testing.T, g api.Group, c api.Command, want api.Errno) {
	t.Helper()
	if c.Policy == 0 {
		c.Policy = api.Normal
	}
	n, ahead, behind, e := Plan(g, c)
	if e != want || !model.Same(n, api.Group{}) || len(ahead)+len(behind) > 0 {
		t.Errorf("command %d of %q: %d, not %d", c.Kind, c.Volume, e, want)
	}
}

// show writes the segments of a volume.
func show(g api.Group, name string) string {
	v, ok := model.Volume(g, name)
	if !ok {
		return "none"
	}
	var b strings.Builder
	for _, s := range v.Segments {
		b.WriteString(describe.KindName(s.Kind) + " " + strconv.Itoa(s.Start) + "+" + strconv.Itoa(s.Length))
		for _, a := range s.Areas {
			b.WriteString(" " + a.On)
			if !a.Volume {
				b.WriteString(":" + strconv.Itoa(a.Start))
			}
		}
		for _, f := range []struct {
			name string
			n    int
		}{{"chunk", s.Chunk}, {"device", s.Device}, {"mode", s.Mode}, {"done", s.Done}} {
			if f.n != 0 {
				b.WriteString(" " + f.name + strconv.Itoa(f.n))
			}
		}
		if s.Log != "" {
			b.WriteString(" log")
		}
		if s.Pool != "" {
			b.WriteString(" pool:" + s.Pool)
		}
		for _, k := range s.Stale {
			b.WriteString(" stale" + strconv.Itoa(k))
		}
		b.WriteString("; ")
	}
	if v.Hidden {
		b.WriteString("hidden")
	}
	if v.ReadOnly {
		b.WriteString("readonly")
	}
	return strings.TrimSuffix(b.String(), "; ")
}

func is(t *testing.T, g api.Group, name, want string) {
	t.Helper()
	if got := show(g, name); got != want {
		t.Errorf("%s is %q, not %q", name, got, want)
	}
}

func actsAre(t *testing.T, got []api.Act, want ...api.Act) {
	t.Helper()
	if !slices.Equal(got, want) {
		t.Errorf("the acts are %v, not %v", got, want)
	}
}

func volumesOf(g api.Group) string {
	var l []string
	for _, v := range g.Volumes {
		l = append(l, v.Name)
	}
	return strings.Join(l, " ")
}

func linear(name string, extents int) api.Command {
	return api.Command{Kind: api.CmdLinear, Volume: name, Extents: extents}
}

func mirror(name string, extents, legs, log int) api.Command {
	return api.Command{Kind: api.CmdMirror, Volume: name, Extents: extents, Parts: legs, Chunk: 4, Number: log}
}

// P35.1
func TestPlanErrors(t *testing.T) {
	bad := empty(1)
	bad.Name = ""
	refused(t, bad, api.Command{Kind: 0}, api.ErrKind)
	refused(t, bad, api.Command{Kind: 31}, api.ErrKind)
	refused(t, bad, api.Command{Kind: math.MinInt}, api.ErrKind)
	refused(t, bad, linear("", 0), api.ErrName)
	full := empty(1)
	for i := range 32 {
		full.Volumes = append(full.Volumes, api.Volume{Name: "v" + strconv.Itoa(i), ID: uint64(100 + i), Segments: []api.Segment{{Length: 1, Kind: api.SegZero}}})
	}
	refused(t, full, linear("x", 1), api.ErrLimit)
	g := empty(1)
	g.Next = 1 << 30
	refused(t, g, linear("x", 1), api.ErrRange)
	n, _, _ := plan(t, empty(1), linear("x", 1))
	if n.Seq != 3 || n.Next != 51 || n.Volumes[0].ID != names.Identity(5, 50) {
		t.Error("the numbers of the result")
	}
}

// P35.2
func TestRenameRuns(t *testing.T) {
	g := all(t, empty(3), mirror("m", 2, 2, 1), linear("x", 1), api.Command{Kind: api.CmdPool, Volume: "p", Extents: 20, Number: 220, Chunk: 4}, api.Command{Kind: api.CmdThin, Volume: "t", Other: "p", Extents: 9})
	n, e := Rename(g, "m", "mm")
	if e != api.OK || volumesOf(n) != "mm mm_leg0 mm_leg1 mm_log x p p_meta p_data t" {
		t.Errorf("Rename: %s", volumesOf(n))
	}
	is(t, n, "mm", "mirror 0+2 mm_leg0 mm_leg1 chunk4 log")
	n, _ = Rename(g, "p", "q")
	is(t, n, "t", "thin 0+9 device1 pool:q")
	is(t, n, "q", "pool 0+20 q_meta q_data chunk4")
	long := strings.Repeat("x", 24)
	deep := api.Group{Volumes: []api.Volume{{Name: "m"}, {Name: "m_leg0_leg1_leg2", Hidden: true}, {Name: "m_leg0_leg1_leg2_leg3", Hidden: true}}}
	for i, c := range []struct {
		g        api.Group
		from, to string
		want     api.Errno
	}{{g, "zz", "y", api.ErrNone}, {g, "m_leg0", "y", api.ErrNone}, {g, "m", "y_log", api.ErrName}, {g, "m", "", api.ErrName}, {g, "m", "x", api.ErrTwice}, {g, "m", "m", api.ErrTwice}, {deep, "m", long, api.ErrLimit}, {deep, "m", long[:20], api.OK}, {api.Group{Volumes: []api.Volume{{Name: "m"}, {Name: "y_log", Hidden: true}}}, "m", "y", api.ErrTwice}} {
		if n, e := Rename(c.g, c.from, c.to); e != c.want || e != api.OK && !model.Same(n, api.Group{}) {
			t.Errorf("Rename %d: %d", i, e)
		}
	}
	r := api.Request{Legs: 1, Stripes: 1, Extents: 5, Policy: api.Normal}
	free := empty(1)
	free.Disks[0].Extents = 3
	area := func(on string, start int) api.Area { return api.Area{On: on, Start: start} }
	if l := Runs(free, r, []api.Area{area("pv0", 1), area("pv0", 0), area("pv0", 2), area("zz", 0), area("pv0", 3), {Volume: true, On: "pv0"}}); !slices.Equal(l, []int{2, 3, 0, 0, 0, 0}) {
		t.Errorf("Runs: %v", l)
	}
	r.Policy = 0
	if l := Runs(free, r, []api.Area{area("pv0", 1), area("pv0", 0)}); !slices.Equal(l, []int{0, 0}) {
		t.Errorf("Runs with an error: %v", l)
	}
	for kind := range 12 {
		v := api.Volume{Segments: []api.Segment{{Kind: api.SegLinear}, {Kind: kind}}}
		want := kind == api.SegLinear || kind == api.SegStriped || kind == api.SegZero || kind == api.SegError
		hidden := v
		hidden.Hidden = true
		if Simple(v) != want || Plain(v) != want || Simple(hidden) != want || Plain(hidden) {
			t.Errorf("kind %d", kind)
		}
	}
}

// P35.3
func TestAbsent(t *testing.T) {
	g := all(t, empty(4), mirror("m", 2, 2, 1), api.Command{Kind: api.CmdParity, Volume: "r", Extents: 4, Parts: 3, Chunk: 4}, linear("x", 1))
	is(t, g, "m_log", "linear 0+1 pv0:2; hidden")
	n := Absent(g, []string{"pv1", "pv2", "other"})
	is(t, n, "m", "mirror 0+2 m_leg0 m_leg1 chunk4 log stale0 stale2")
	is(t, n, "r", "parity 0+4 r_leg0 r_leg1 r_leg2 chunk4 stale0")
	if !n.Disks[0].Missing || n.Disks[1].Missing || !n.Disks[3].Missing || g.Disks[0].Missing {
		t.Error("the disks")
	}
	n = Absent(n, []string{"pv0", "pv2", "pv3"})
	is(t, n, "m", "mirror 0+2 m_leg0 m_leg1 chunk4 log stale0 stale2")
	is(t, n, "r", "parity 0+4 r_leg0 r_leg1 r_leg2 chunk4 stale0")
	if n.Disks[0].Missing || !n.Disks[1].Missing {
		t.Error("disks that are back")
	}
	n = Absent(g, nil)
	is(t, n, "m", "mirror 0+2 m_leg0 m_leg1 chunk4 log")
	is(t, n, "r", "parity 0+4 r_leg0 r_leg1 r_leg2 chunk4")
	Absent(api.Group{Volumes: []api.Volume{{Segments: []api.Segment{{Kind: api.SegMirror}}}}}, nil)
}

// P35.4
func TestLinearStriped(t *testing.T) {
	g := empty(3)
	n, ahead, behind := plan(t, g, linear("x", 4))
	is(t, n, "x", "linear 0+4 pv0:0")
	actsAre(t, ahead, api.Act{Kind: api.ActZero, Volume: "x", Count: 16})
	actsAre(t, behind)
	n, _, _ = plan(t, n, linear("y", 150))
	is(t, n, "y", "linear 0+96 pv0:4; linear 96+54 pv1:0")
	n, ahead, _ = plan(t, n, api.Command{Kind: api.CmdStriped, Volume: "s", Extents: 6, Parts: 2, Chunk: 2})
	is(t, n, "s", "striped 0+6 pv1:54 pv2:0 chunk2")
	actsAre(t, ahead, api.Act{Kind: api.ActZero, Volume: "s", Count: 24})
	g.Disks[1].Tags = []string{"ssd"}
	n, _, _ = plan(t, g, api.Command{Kind: api.CmdLinear, Volume: "x", Extents: 4, Tag: "ssd"})
	is(t, n, "x", "linear 0+4 pv1:0")
	for _, c := range []struct {
		c    api.Command
		want api.Errno
	}{
		{linear("x_log", 0), api.ErrName}, {linear("", 1), api.ErrName}, {linear("y", 0), api.ErrRange}, {linear("y", 4097), api.ErrRange}, {linear("y", 301), api.ErrSpace}, {api.Command{Kind: api.CmdLinear, Volume: "y", Extents: 1, Policy: 9}, api.ErrKind}, {api.Command{Kind: api.CmdLinear, Volume: "y", Extents: 1, Policy: api.Cling}, api.ErrNone}, {api.Command{Kind: api.CmdLinear, Volume: "y", Extents: 1, Tag: "-"}, api.ErrForm},
		{api.Command{Kind: api.CmdStriped, Volume: "y", Extents: 6, Parts: 1, Chunk: 2}, api.ErrRange}, {api.Command{Kind: api.CmdStriped, Volume: "y", Extents: 5, Parts: 7, Chunk: 2}, api.ErrRange}, {api.Command{Kind: api.CmdStriped, Volume: "y", Extents: 5, Parts: 2, Chunk: 2}, api.ErrSize}, {api.Command{Kind: api.CmdStriped, Volume: "y", Extents: 8, Parts: 4, Chunk: 2}, api.ErrSpace}, {api.Command{Kind: api.CmdStriped, Volume: "y", Extents: 6, Parts: 2, Chunk: 3}, api.ErrForm},
	} {
		refused(t, g, c.c, c.want)
	}
	refused(t, n, linear("x", 0), api.ErrTwice)
}

// P35.5
func TestMirror(t *testing.T) {
	g := empty(3)
	n, ahead, _ := plan(t, g, mirror("m", 10, 2, 1))
	if volumesOf(n) != "m m_leg0 m_leg1 m_log" || n.Next != 54 || n.Volumes[2].ID != names.Identity(5, 52) {
		t.Errorf("the volumes: %s", volumesOf(n))
	}
	is(t, n, "m", "mirror 0+10 m_leg0 m_leg1 chunk4 log")
	is(t, n, "m_leg1", "linear 0+10 pv1:0; hidden")
	is(t, n, "m_log", "linear 0+1 pv0:10; hidden")
	actsAre(t, ahead, api.Act{Kind: api.ActZero, Volume: "m_leg0", Count: 40}, api.Act{Kind: api.ActZero, Volume: "m_leg1", Count: 40}, api.Act{Kind: api.ActLog, Volume: "m_log", Number: 10})
	n, ahead, _ = plan(t, g, mirror("m", 10, 3, 0))
	is(t, n, "m", "mirror 0+10 m_leg0 m_leg1 m_leg2 chunk4")
	if len(ahead) != 3 {
		t.Error("acts without a log")
	}
	c := mirror("m", 100, 2, 1)
	c.Chunk = 1
	n, _, _ = plan(t, g, c)
	is(t, n, "m_log", "linear 0+2 pv2:0; hidden")
	for _, c := range []struct {
		c    api.Command
		want api.Errno
	}{{mirror("m", 1, 1, 0), api.ErrRange}, {mirror("m", 1, 7, 0), api.ErrRange}, {mirror("m", 1, 2, 2), api.ErrRange}, {mirror("m", 1, 2, -1), api.ErrRange}, {api.Command{Kind: api.CmdMirror, Volume: "m", Extents: 1, Parts: 2}, api.ErrRange}, {api.Command{Kind: api.CmdMirror, Volume: "m", Extents: 1, Parts: 2, Chunk: 1025}, api.ErrRange}, {mirror("m", 1, 4, 0), api.ErrSpace}, {mirror("m", 100, 3, 1), api.ErrSpace}} {
		refused(t, g, c.c, c.want)
	}
}

// P35.6, P35.7
func TestParityPool(t *testing.T) {
	g := empty(4)
	n, ahead, _ := plan(t, g, api.Command{Kind: api.CmdParity, Volume: "r", Extents: 6, Parts: 4, Chunk: 2})
	is(t, n, "r", "parity 0+6 r_leg0 r_leg1 r_leg2 r_leg3 chunk2")
	is(t, n, "r_leg3", "linear 0+6 pv3:0; hidden")
	actsAre(t, ahead, api.Act{Kind: api.ActParity, Volume: "r"})
	n, ahead, _ = plan(t, g, api.Command{Kind: api.CmdPool, Volume: "p", Extents: 50, Number: 220, Chunk: 3})
	if volumesOf(n) != "p p_meta p_data" {
		t.Error("the volumes of a pool")
	}
	is(t, n, "p", "pool 0+50 p_meta p_data chunk3")
	is(t, n, "p_data", "linear 0+50 pv0:0; hidden")
	is(t, n, "p_meta", "linear 0+50 pv0:50; linear 50+100 pv1:0; linear 150+70 pv2:0; hidden")
	actsAre(t, ahead, api.Act{Kind: api.ActPool, Volume: "p", Number: 66, Count: 3})
	for _, c := range []struct {
		c    api.Command
		want api.Errno
	}{
		{api.Command{Kind: api.CmdParity, Volume: "r", Extents: 6, Parts: 2, Chunk: 2}, api.ErrRange}, {api.Command{Kind: api.CmdParity, Volume: "r", Extents: 5, Parts: 7, Chunk: 2}, api.ErrRange}, {api.Command{Kind: api.CmdParity, Volume: "r", Extents: 5, Parts: 3, Chunk: 2}, api.ErrSize}, {api.Command{Kind: api.CmdParity, Volume: "r", Extents: 8, Parts: 5, Chunk: 2}, api.ErrSpace}, {api.Command{Kind: api.CmdParity, Volume: "r", Extents: 6, Parts: 3, Chunk: 3}, api.ErrForm},
		{api.Command{Kind: api.CmdPool, Volume: "p", Extents: 5, Number: 0, Chunk: 3}, api.ErrRange}, {api.Command{Kind: api.CmdPool, Volume: "p", Extents: 5, Number: 4097, Chunk: 3}, api.ErrRange}, {api.Command{Kind: api.CmdPool, Volume: "p", Extents: 5, Number: 220, Chunk: 65}, api.ErrRange}, {api.Command{Kind: api.CmdPool, Volume: "p", Extents: 5, Number: 203, Chunk: 4}, api.ErrSize}, {api.Command{Kind: api.CmdPool, Volume: "p", Extents: 1, Number: 220, Chunk: 5}, api.ErrSize}, {api.Command{Kind: api.CmdPool, Volume: "p", Extents: 200, Number: 230, Chunk: 4}, api.ErrSpace},
	} {
		refused(t, g, c.c, c.want)
	}
}

// pooled is a group with a pool and a thin volume of it.
func pooled(t *testing.T) api.Group {
	t.Helper()
	return all(t, empty(4), api.Command{Kind: api.CmdPool, Volume: "p", Extents: 20, Number: 220, Chunk: 4}, api.Command{Kind: api.CmdThin, Volume: "t", Other: "p", Extents: 9}, linear("x", 5))
}

// P35.8
func TestThinSnapshot(t *testing.T) {
	g := pooled(t)
	n, ahead, behind := plan(t, g, api.Command{Kind: api.CmdThin, Volume: "t2", Other: "p", Extents: 4096})
	is(t, n, "t2", "thin 0+4096 device2 pool:p")
	actsAre(t, ahead, api.Act{Kind: api.ActThin, Volume: "p", Number: 2})
	actsAre(t, behind)
	n, ahead, _ = plan(t, n, api.Command{Kind: api.CmdSnapshot, Volume: "s", Other: "t2"})
	is(t, n, "s", "thin 0+4096 device3 pool:p")
	actsAre(t, ahead, api.Act{Kind: api.ActSnap, Volume: "p", Number: 3, Other: 2})
	n = all(t, n, api.Command{Kind: api.CmdRemove, Volume: "t2"})
	n, _, _ = plan(t, n, api.Command{Kind: api.CmdThin, Volume: "t3", Other: "p", Extents: 1})
	is(t, n, "t3", "thin 0+1 device2 pool:p")
	for _, c := range []struct {
		c    api.Command
		want api.Errno
	}{
		{api.Command{Kind: api.CmdThin, Volume: "a", Other: "zz", Extents: 1}, api.ErrNone}, {api.Command{Kind: api.CmdThin, Volume: "a", Other: "x", Extents: 1}, api.ErrKind}, {api.Command{Kind: api.CmdThin, Volume: "a", Other: "zz"}, api.ErrRange}, {api.Command{Kind: api.CmdThin, Volume: "t", Other: "zz"}, api.ErrTwice}, {api.Command{Kind: api.CmdSnapshot, Volume: "a", Other: "zz"}, api.ErrNone}, {api.Command{Kind: api.CmdSnapshot, Volume: "a", Other: "p"}, api.ErrKind}, {api.Command{Kind: api.CmdSnapshot, Volume: "t", Other: "p"}, api.ErrTwice}, {api.Command{Kind: api.CmdSnapshot, Volume: "", Other: "p"}, api.ErrName},
	} {
		refused(t, g, c.c, c.want)
	}
}

// P35.9, P35.10
func TestExtendShrink(t *testing.T) {
	g := all(t, pooled(t), api.Command{Kind: api.CmdStriped, Volume: "s", Extents: 6, Parts: 2, Chunk: 2}, mirror("m", 2, 2, 0), linear("last", 3))
	is(t, g, "last", "linear 0+3 pv2:50")
	n, ahead, _ := plan(t, g, api.Command{Kind: api.CmdExtend, Volume: "x", Extents: 4})
	is(t, n, "x", "linear 0+5 pv2:40; linear 5+4 pv2:53")
	actsAre(t, ahead, api.Act{Kind: api.ActZero, Volume: "x", From: 20, Count: 16})
	n, _, _ = plan(t, g, api.Command{Kind: api.CmdExtend, Volume: "last", Extents: 4, Policy: api.Contiguous})
	is(t, n, "last", "linear 0+3 pv2:50; linear 3+4 pv2:53")
	refused(t, g, api.Command{Kind: api.CmdExtend, Volume: "x", Extents: 4, Policy: api.Contiguous}, api.ErrSpace)
	n, ahead, _ = plan(t, g, api.Command{Kind: api.CmdExtend, Volume: "s", Extents: 4})
	is(t, n, "s", "striped 0+6 pv2:45 pv3:0 chunk2; striped 6+4 pv2:53 pv3:5 chunk2")
	actsAre(t, ahead, api.Act{Kind: api.ActZero, Volume: "s", From: 24, Count: 16})
	n, ahead, _ = plan(t, g, api.Command{Kind: api.CmdExtend, Volume: "t", Extents: 4})
	is(t, n, "t", "thin 0+13 device1 pool:p")
	actsAre(t, ahead, api.Act{Kind: api.ActTrim, Volume: "p", Number: 1, From: 36})
	for _, c := range []struct {
		kind    int
		name    string
		extents int
		want    api.Errno
	}{
		{api.CmdExtend, "", 1, api.ErrNone}, {api.CmdExtend, "zz", 0, api.ErrNone}, {api.CmdExtend, "m_leg0", 0, api.ErrKind}, {api.CmdExtend, "m", 0, api.ErrRange}, {api.CmdExtend, "x", 4097, api.ErrRange}, {api.CmdExtend, "m", 1, api.ErrKind}, {api.CmdExtend, "p", 1, api.ErrKind}, {api.CmdExtend, "s", 5, api.ErrSize}, {api.CmdExtend, "x", 400, api.ErrSpace},
		{api.CmdShrink, "", 1, api.ErrNone}, {api.CmdShrink, "m_leg0", 1, api.ErrKind}, {api.CmdShrink, "m", 9, api.ErrKind}, {api.CmdShrink, "x", 5, api.ErrRange}, {api.CmdShrink, "x", 0, api.ErrRange}, {api.CmdShrink, "s", 3, api.ErrSize},
	} {
		refused(t, g, api.Command{Kind: c.kind, Volume: c.name, Extents: c.extents}, c.want)
	}
	long := all(t, g, api.Command{Kind: api.CmdExtend, Volume: "s", Extents: 4}, api.Command{Kind: api.CmdExtend, Volume: "x", Extents: 4})
	for _, c := range []struct {
		name    string
		extents int
		want    string
	}{{"x", 6, "linear 0+5 pv2:40; linear 5+1 pv2:63"}, {"x", 5, "linear 0+5 pv2:40"}, {"x", 1, "linear 0+1 pv2:40"}, {"s", 8, "striped 0+6 pv2:45 pv3:0 chunk2; striped 6+2 pv2:53 pv3:5 chunk2"}, {"s", 4, "striped 0+4 pv2:45 pv3:0 chunk2"}, {"t", 2, "thin 0+2 device1 pool:p"}} {
		n, ahead, behind := plan(t, long, api.Command{Kind: api.CmdShrink, Volume: c.name, Extents: c.extents})
		if c.name == "x" {
			c.want = strings.ReplaceAll(c.want, "pv2:63", show(long, "x")[strings.Index(show(long, "x"), "pv2:5"):][:6])
		}
		is(t, n, c.name, c.want)
		if len(ahead)+len(behind) > 0 {
			t.Error("acts of CmdShrink")
		}
	}
}

// P35.11
func TestRemoveRename(t *testing.T) {
	g := all(t, pooled(t), mirror("m", 2, 2, 1))
	n, ahead, behind := plan(t, g, api.Command{Kind: api.CmdRemove, Volume: "m"})
	if volumesOf(n) != "p p_meta p_data t x" || len(ahead)+len(behind) > 0 {
		t.Errorf("volumes behind CmdRemove: %s", volumesOf(n))
	}
	m, _ := model.Volume(g, "m")
	if !slices.Equal(n.History, []api.Removed{{Name: "m", ID: m.ID, Seq: 4}}) {
		t.Errorf("History: %v", n.History)
	}
	n, _, behind = plan(t, n, api.Command{Kind: api.CmdRemove, Volume: "t"})
	actsAre(t, behind, api.Act{Kind: api.ActDrop, Volume: "p", Number: 1})
	for i := range 40 {
		n = all(t, n, linear("v"+strconv.Itoa(i), 1), api.Command{Kind: api.CmdRemove, Volume: "v" + strconv.Itoa(i)})
	}
	if len(n.History) != 32 || n.History[0].Name != "v8" || n.History[31].Name != "v39" {
		t.Error("the oldest elements of History")
	}
	refused(t, g, api.Command{Kind: api.CmdRemove, Volume: "p"}, api.ErrUse)
	refused(t, g, api.Command{Kind: api.CmdRemove, Volume: "m_leg0"}, api.ErrKind)
	refused(t, g, api.Command{Kind: api.CmdRemove, Volume: "zz"}, api.ErrNone)
	n = all(t, g, api.Command{Kind: api.CmdRename, Volume: "m", Other: "mm"}, api.Command{Kind: api.CmdReadOnly, Volume: "mm", Number: 1})
	is(t, n, "mm", "mirror 0+2 mm_leg0 mm_leg1 chunk4 log; readonly")
	n = all(t, n, api.Command{Kind: api.CmdReadOnly, Volume: "mm", Number: 2})
	is(t, n, "mm", "mirror 0+2 mm_leg0 mm_leg1 chunk4 log")
	refused(t, g, api.Command{Kind: api.CmdRename, Volume: "m_leg0", Other: "y"}, api.ErrKind)
	refused(t, g, api.Command{Kind: api.CmdRename, Volume: "m", Other: "x"}, api.ErrTwice)
	refused(t, g, api.Command{Kind: api.CmdReadOnly, Volume: "m_leg0"}, api.ErrKind)
}

// P35.12
func TestTags(t *testing.T) {
	g := all(t, empty(2), mirror("m", 1, 2, 0), api.Command{Kind: api.CmdTag, Volume: "m", Tag: "b"}, api.Command{Kind: api.CmdTag, Volume: "m", Tag: "a"}, api.Command{Kind: api.CmdTag, Volume: "m_leg0", Tag: "x"}, api.Command{Kind: api.CmdTag, Disk: api.Disk{Name: "pv1"}, Tag: "y"})
	v, _ := model.Volume(g, "m")
	if !slices.Equal(v.Tags, []string{"a", "b"}) || !slices.Equal(g.Disks[1].Tags, []string{"y"}) {
		t.Error("CmdTag")
	}
	g = all(t, g, api.Command{Kind: api.CmdUntag, Volume: "m", Tag: "a"}, api.Command{Kind: api.CmdUntag, Disk: api.Disk{Name: "pv1"}, Tag: "y"})
	if v, _ := model.Volume(g, "m"); !slices.Equal(v.Tags, []string{"b"}) || len(g.Disks[1].Tags) > 0 {
		t.Error("CmdUntag")
	}
	for _, c := range []struct {
		c    api.Command
		want api.Errno
	}{
		{api.Command{Kind: api.CmdTag, Volume: "zz", Tag: "-"}, api.ErrNone}, {api.Command{Kind: api.CmdTag, Tag: "-"}, api.ErrNone}, {api.Command{Kind: api.CmdTag, Volume: "m", Tag: "-"}, api.ErrForm}, {api.Command{Kind: api.CmdTag, Volume: "m", Tag: "b"}, api.ErrTwice}, {api.Command{Kind: api.CmdUntag, Volume: "m", Tag: "a"}, api.ErrNone}, {api.Command{Kind: api.CmdUntag, Volume: "zz", Tag: "b"}, api.ErrNone}, {api.Command{Kind: api.CmdUntag, Disk: api.Disk{Name: "pv9"}, Tag: "b"}, api.ErrNone},
	} {
		refused(t, g, c.c, c.want)
	}
	for i := range 7 {
		g = all(t, g, api.Command{Kind: api.CmdTag, Volume: "m", Tag: "t" + strconv.Itoa(i)})
	}
	refused(t, g, api.Command{Kind: api.CmdTag, Volume: "m", Tag: "z"}, api.ErrLimit)
}

// P35.13
func TestCutJoin(t *testing.T) {
	g := all(t, empty(2), linear("x", 4), api.Command{Kind: api.CmdStriped, Volume: "s", Extents: 6, Parts: 2, Chunk: 2}, api.Command{Kind: api.CmdJoin, Volume: "x", Other: "s"}, mirror("m", 1, 2, 0), linear("y", 2))
	is(t, g, "x", "linear 0+4 pv0:0; striped 4+6 pv0:4 pv1:0 chunk2")
	if len(g.History) != 1 || g.History[0].Name != "s" {
		t.Error("CmdJoin removes the other volume")
	}
	for _, c := range []struct {
		at         int
		head, tail string
	}{{1, "linear 0+1 pv0:0", "linear 0+3 pv0:1; striped 3+6 pv0:4 pv1:0 chunk2"}, {4, "linear 0+4 pv0:0", "striped 0+6 pv0:4 pv1:0 chunk2"}, {6, "linear 0+4 pv0:0; striped 4+2 pv0:4 pv1:0 chunk2", "striped 0+4 pv0:5 pv1:1 chunk2"}} {
		n, ahead, _ := plan(t, g, api.Command{Kind: api.CmdCut, Volume: "x", Other: "z", Number: c.at})
		is(t, n, "x", c.head)
		is(t, n, "z", c.tail)
		actsAre(t, ahead)
		n = all(t, n, api.Command{Kind: api.CmdJoin, Volume: "x", Other: "z"})
		if model.Length(n.Volumes[0]) != 10 {
			t.Error("CmdJoin behind CmdCut")
		}
	}
	for _, c := range []struct {
		c    api.Command
		want api.Errno
	}{
		{api.Command{Kind: api.CmdCut, Volume: "m", Other: "", Number: 0}, api.ErrKind}, {api.Command{Kind: api.CmdCut, Volume: "m_leg0", Other: "", Number: 0}, api.ErrKind}, {api.Command{Kind: api.CmdCut, Volume: "x", Other: "", Number: 0}, api.ErrRange}, {api.Command{Kind: api.CmdCut, Volume: "x", Other: "", Number: 10}, api.ErrRange}, {api.Command{Kind: api.CmdCut, Volume: "x", Other: "", Number: 5}, api.ErrName}, {api.Command{Kind: api.CmdCut, Volume: "x", Other: "x", Number: 5}, api.ErrTwice}, {api.Command{Kind: api.CmdCut, Volume: "x", Other: "z", Number: 5}, api.ErrSize},
		{api.Command{Kind: api.CmdJoin, Volume: "x", Other: "zz"}, api.ErrNone}, {api.Command{Kind: api.CmdJoin, Volume: "x", Other: "m"}, api.ErrKind}, {api.Command{Kind: api.CmdJoin, Volume: "m", Other: "x"}, api.ErrKind}, {api.Command{Kind: api.CmdJoin, Volume: "x", Other: "x"}, api.ErrKind}, {api.Command{Kind: api.CmdJoin, Volume: "x", Other: "m_leg0"}, api.ErrKind},
	} {
		refused(t, g, c.c, c.want)
	}
}

// P35.14
func TestDisks(t *testing.T) {
	g := all(t, empty(2), linear("x", 1))
	n := all(t, g, api.Command{Kind: api.CmdClosed, Disk: api.Disk{Name: "pv1"}, Number: 1})
	if !n.Disks[1].Closed || all(t, n, api.Command{Kind: api.CmdClosed, Disk: api.Disk{Name: "pv1"}}).Disks[1].Closed {
		t.Error("CmdClosed")
	}
	n, ahead, _ := plan(t, g, api.Command{Kind: api.CmdDiskAdd, Disk: api.Disk{Name: "pv9", ID: 1, First: 50, Extents: 7, Closed: true, Missing: true, Tags: []string{"t"}}, Number: 2, Extents: 40})
	d := n.Disks[2]
	if d.ID != names.Identity(5, 51) || d.Closed || d.Missing || d.First != 50 || d.Extents != 7 || !slices.Equal(d.Tags, []string{"t"}) || n.Next != 52 {
		t.Errorf("CmdDiskAdd: %v", d)
	}
	actsAre(t, ahead, api.Act{Kind: api.ActLabel, Volume: "pv9", Number: 2, From: 40})
	n, _, behind := plan(t, g, api.Command{Kind: api.CmdDiskRemove, Disk: api.Disk{Name: "pv1"}})
	if len(n.Disks) != 1 {
		t.Error("CmdDiskRemove")
	}
	actsAre(t, behind, api.Act{Kind: api.ActErase, Volume: "pv1"})
	refused(t, g, api.Command{Kind: api.CmdClosed, Disk: api.Disk{Name: "zz"}}, api.ErrNone)
	refused(t, g, api.Command{Kind: api.CmdDiskAdd, Disk: api.Disk{Name: "pv1"}}, api.ErrTwice)
	refused(t, g, api.Command{Kind: api.CmdDiskAdd, Disk: api.Disk{Name: ""}}, api.ErrName)
	refused(t, g, api.Command{Kind: api.CmdDiskRemove, Disk: api.Disk{Name: "zz"}}, api.ErrNone)
	refused(t, g, api.Command{Kind: api.CmdDiskRemove, Disk: api.Disk{Name: "pv0"}}, api.ErrUse)
	refused(t, empty(1), api.Command{Kind: api.CmdDiskRemove, Disk: api.Disk{Name: "pv0"}}, api.ErrState)
}

// P35.15
func TestLegOn(t *testing.T) {
	g := all(t, empty(4), linear("x", 5), api.Command{Kind: api.CmdReadOnly, Volume: "x", Number: 1}, api.Command{Kind: api.CmdTag, Volume: "x", Tag: "old"}, mirror("m", 3, 2, 1))
	x, _ := model.Volume(g, "x")
	on := api.Command{Kind: api.CmdLegOn, Volume: "x", Chunk: 4}
	n, ahead, _ := plan(t, g, on)
	is(t, n, "x", "mirror 0+5 x_leg0 x_leg1 chunk4 stale1; readonly")
	is(t, n, "x_leg0", "linear 0+5 pv0:0; hidden")
	is(t, n, "x_leg1", "linear 0+5 pv1:3; hidden")
	if y, _ := model.Volume(n, "x_leg0"); y.ID != x.ID || !slices.Equal(y.Tags, x.Tags) || len(ahead) > 0 {
		t.Error("the first leg keeps its tags and identity")
	}
	if volumesOf(n) != "x_leg0 m m_leg0 m_leg1 m_log x x_leg1" {
		t.Errorf("the order is %s", volumesOf(n))
	}
	n = all(t, n, on)
	is(t, n, "x", "mirror 0+5 x_leg0 x_leg1 x_leg2 chunk4 stale1 stale2; readonly")
	is(t, n, "x_leg2", "linear 0+5 pv2:0; hidden")
	n = all(t, g, api.Command{Kind: api.CmdStale, Volume: "m", Number: 2}, api.Command{Kind: api.CmdLegOn, Volume: "m"})
	is(t, n, "m", "mirror 0+3 m_leg0 m_leg1 m_leg2 chunk4 log stale2 stale3")
	is(t, n, "m_leg2", "linear 0+3 pv2:0; hidden")
	refused(t, g, api.Command{Kind: api.CmdLegOn, Volume: "x"}, api.ErrRange)
	refused(t, g, api.Command{Kind: api.CmdLegOn, Volume: "x", Chunk: 1025}, api.ErrRange)
	refused(t, g, api.Command{Kind: api.CmdLegOn, Volume: "m_leg0", Chunk: 4}, api.ErrKind)
	refused(t, pooled(t), api.Command{Kind: api.CmdLegOn, Volume: "t", Chunk: 4}, api.ErrKind)
	wide := empty(8)
	wide = all(t, wide, mirror("w", 1, 6, 0))
	refused(t, wide, api.Command{Kind: api.CmdLegOn, Volume: "w"}, api.ErrLimit)
	refused(t, all(t, empty(1), linear("x", 5)), on, api.ErrSpace)
}

// P35.16
func TestLegOff(t *testing.T) {
	g := all(t, empty(4), mirror("m", 3, 3, 1), api.Command{Kind: api.CmdTag, Volume: "m", Tag: "m"}, api.Command{Kind: api.CmdStale, Volume: "m", Number: 2}, api.Command{Kind: api.CmdStale, Volume: "m", Number: 3}, linear("x", 1))
	old, _ := model.Volume(g, "m")
	off := func(k int, other string) api.Command {
		return api.Command{Kind: api.CmdLegOff, Volume: "m", Number: k, Other: other}
	}
	n, ahead, _ := plan(t, g, off(1, ""))
	is(t, n, "m", "mirror 0+3 m_leg0 m_leg1 chunk4 log stale1 stale2")
	is(t, n, "m_leg1", "linear 0+3 pv2:0; hidden")
	actsAre(t, ahead, api.Act{Kind: api.ActSync, Volume: "m"})
	if volumesOf(n) != "m m_leg0 m_leg1 m_log x" || len(n.History) > 0 {
		t.Errorf("the volumes are %s", volumesOf(n))
	}
	n, _, _ = plan(t, g, off(0, "y"))
	is(t, n, "y", "linear 0+3 pv0:0")
	is(t, n, "m", "mirror 0+3 m_leg0 m_leg1 chunk4 log stale1 stale2")
	is(t, n, "m_leg0", "linear 0+3 pv1:0; hidden")
	n = all(t, g, off(2, ""), api.Command{Kind: api.CmdReadOnly, Volume: "m", Number: 1}, off(0, "y"))
	is(t, n, "m", "linear 0+3 pv1:0; readonly")
	if v, _ := model.Volume(n, "m"); v.ID != old.ID || !slices.Equal(v.Tags, []string{"m"}) || volumesOf(n) != "m y x" {
		t.Errorf("the last leg: %v, %s", v, volumesOf(n))
	}
	for _, c := range []struct {
		c    api.Command
		want api.Errno
	}{{off(3, ""), api.ErrRange}, {off(-1, ""), api.ErrRange}, {off(2, "y"), api.ErrStale}, {off(1, "y_log"), api.ErrName}, {off(1, "x"), api.ErrTwice}, {off(2, ""), api.OK}, {api.Command{Kind: api.CmdLegOff, Volume: "x"}, api.ErrKind}, {api.Command{Kind: api.CmdLegOff, Volume: "zz"}, api.ErrNone}} {
		if c.want == api.OK {
			plan(t, g, c.c)
		} else {
			refused(t, g, c.c, c.want)
		}
	}
	two := all(t, g, api.Command{Kind: api.CmdStale, Volume: "m", Number: 1})
	refused(t, two, off(0, ""), api.ErrStale)
	refused(t, two, off(0, "y"), api.ErrStale)
}

// A leg that is a mirror itself takes its own parts along.
func TestNestedLegs(t *testing.T) {
	g := all(t, empty(4), mirror("m", 3, 3, 0))
	// m_leg1 becomes a mirror of m_leg1_leg0 and m_leg1_leg1.
	for i := range g.Volumes {
		if g.Volumes[i].Name == "m_leg1" {
			g.Volumes[i].Segments = []api.Segment{{Length: 3, Kind: api.SegMirror, Chunk: 4, Areas: volumes("m_leg1_leg0", "m_leg1_leg1")}}
		}
	}
	for k := range 2 {
		g.Volumes = append(g.Volumes, api.Volume{Name: "m_leg1_leg" + strconv.Itoa(k), ID: uint64(900 + k), Hidden: true, Segments: []api.Segment{{Length: 3, Kind: api.SegLinear, Areas: []api.Area{{On: "pv3", Start: 10 * k}}}}})
	}
	off := func(k int, other string) api.Command {
		return api.Command{Kind: api.CmdLegOff, Volume: "m", Number: k, Other: other}
	}
	n := all(t, g, off(0, ""))
	is(t, n, "m_leg0", "mirror 0+3 m_leg0_leg0 m_leg0_leg1 chunk4; hidden")
	n = all(t, n, off(1, ""))
	is(t, n, "m", "mirror 0+3 m_leg0 m_leg1 chunk4")
	is(t, n, "m_leg1", "linear 0+3 pv3:10; hidden")
	n = all(t, g, off(1, "y"))
	is(t, n, "y", "mirror 0+3 y_leg0 y_leg1 chunk4")
	n = all(t, g, off(1, ""))
	if volumesOf(n) != "m m_leg0 m_leg1" {
		t.Errorf("the volumes are %s", volumesOf(n))
	}
	refused(t, g, api.Command{Kind: api.CmdLegNew, Volume: "m", Number: 1}, api.ErrKind)
}

// P35.17, P35.18
func TestLegNewStaleFresh(t *testing.T) {
	g := all(t, empty(5), mirror("m", 3, 2, 1), api.Command{Kind: api.CmdParity, Volume: "r", Extents: 4, Parts: 3, Chunk: 4}, linear("x", 1))
	n := all(t, g, api.Command{Kind: api.CmdLegNew, Volume: "m", Number: 0})
	is(t, n, "m", "mirror 0+3 m_leg0 m_leg1 chunk4 log stale0")
	is(t, n, "m_leg0", "linear 0+3 pv0:11; hidden")
	n = all(t, g, api.Command{Kind: api.CmdLegNew, Volume: "r", Number: 1})
	is(t, n, "r", "parity 0+4 r_leg0 r_leg1 r_leg2 chunk4 stale1")
	is(t, n, "r_leg1", "linear 0+6 pv1:9; hidden")
	n = all(t, n, api.Command{Kind: api.CmdLegNew, Volume: "r", Number: 1})
	refused(t, n, api.Command{Kind: api.CmdLegNew, Volume: "r", Number: 0}, api.ErrStale)
	refused(t, g, api.Command{Kind: api.CmdLegNew, Volume: "m", Number: 2}, api.ErrRange)
	refused(t, g, api.Command{Kind: api.CmdLegNew, Volume: "x"}, api.ErrKind)
	n = all(t, g, api.Command{Kind: api.CmdStale, Volume: "m", Number: 1})
	refused(t, n, api.Command{Kind: api.CmdLegNew, Volume: "m", Number: 0}, api.ErrStale)
	refused(t, n, api.Command{Kind: api.CmdStale, Volume: "m", Number: 0}, api.ErrStale)
	refused(t, n, api.Command{Kind: api.CmdStale, Volume: "m", Number: 1}, api.ErrTwice)
	refused(t, n, api.Command{Kind: api.CmdStale, Volume: "m", Number: 3}, api.ErrRange)
	refused(t, n, api.Command{Kind: api.CmdFresh, Volume: "m", Number: 0}, api.ErrNone)
	refused(t, n, api.Command{Kind: api.CmdFresh, Volume: "m", Number: -1}, api.ErrRange)
	refused(t, n, api.Command{Kind: api.CmdFresh, Volume: "x", Number: -1}, api.ErrKind)
	refused(t, n, api.Command{Kind: api.CmdStale, Volume: "zz"}, api.ErrNone)
	refused(t, n, api.Command{Kind: api.CmdStale, Volume: "m_leg0"}, api.ErrKind)
	n = all(t, n, api.Command{Kind: api.CmdStale, Volume: "m", Number: 2}, api.Command{Kind: api.CmdFresh, Volume: "m", Number: 1})
	is(t, n, "m", "mirror 0+3 m_leg0 m_leg1 chunk4 log stale2")
	n = all(t, n, api.Command{Kind: api.CmdStale, Volume: "r", Number: 2})
	refused(t, n, api.Command{Kind: api.CmdStale, Volume: "r", Number: 0}, api.ErrStale)
	refused(t, n, api.Command{Kind: api.CmdStale, Volume: "r", Number: 3}, api.ErrRange)
}

// P35.19
func TestMoving(t *testing.T) {
	g := all(t, empty(3), linear("x", 3), mirror("m", 2, 2, 0), api.Command{Kind: api.CmdExtend, Volume: "x", Extents: 2})
	is(t, g, "x", "linear 0+3 pv0:0; linear 3+2 pv0:5")
	cmd := func(kind, n int) api.Command { return api.Command{Kind: kind, Volume: "x", Number: n} }
	n, ahead, behind := plan(t, g, cmd(api.CmdMove, 1))
	is(t, n, "x", "linear 0+3 pv0:0; move 3+2 pv0:5 pv1:2")
	if len(ahead)+len(behind) > 0 {
		t.Error("acts of CmdMove")
	}
	refused(t, g, cmd(api.CmdMove, 2), api.ErrRange)
	refused(t, g, cmd(api.CmdMove, -1), api.ErrRange)
	refused(t, n, cmd(api.CmdMove, 1), api.ErrKind)
	refused(t, n, cmd(api.CmdStep, 0), api.ErrKind)
	refused(t, n, cmd(api.CmdStep, 9), api.ErrRange)
	refused(t, n, cmd(api.CmdFinish, 1), api.ErrStep)
	is(t, all(t, n, cmd(api.CmdAbort, 1)), "x", "linear 0+3 pv0:0; linear 3+2 pv0:5")
	n = all(t, n, cmd(api.CmdStep, 1))
	is(t, n, "x", "linear 0+3 pv0:0; move 3+2 pv0:5 pv1:2 done1")
	is(t, all(t, n, cmd(api.CmdAbort, 1)), "x", "linear 0+3 pv0:0; move 3+1 pv1:2 pv0:5; linear 4+1 pv0:6")
	n = all(t, n, cmd(api.CmdStep, 1))
	refused(t, n, cmd(api.CmdStep, 1), api.ErrStep)
	is(t, all(t, n, cmd(api.CmdAbort, 1)), "x", "linear 0+3 pv0:0; move 3+2 pv1:2 pv0:5")
	is(t, all(t, n, cmd(api.CmdFinish, 1)), "x", "linear 0+3 pv0:0; linear 3+2 pv1:2")
	refused(t, g, cmd(api.CmdAbort, 0), api.ErrKind)
	refused(t, g, cmd(api.CmdFinish, 0), api.ErrKind)
	n = all(t, g, api.Command{Kind: api.CmdMove, Volume: "m_leg0"})
	is(t, n, "m_leg0", "move 0+2 pv0:3 pv1:2; hidden")
	refused(t, g, api.Command{Kind: api.CmdMove, Volume: "m"}, api.ErrKind)
	refused(t, g, api.Command{Kind: api.CmdMove, Volume: "zz"}, api.ErrNone)
	refused(t, all(t, empty(1), linear("x", 1)), cmd(api.CmdMove, 0), api.ErrSpace)
}

// P35.20
func TestCache(t *testing.T) {
	g := all(t, empty(2), linear("x", 10), api.Command{Kind: api.CmdTag, Volume: "x", Tag: "t"}, api.Command{Kind: api.CmdReadOnly, Volume: "x", Number: 1}, mirror("m", 1, 2, 0))
	x, _ := model.Volume(g, "x")
	on := api.Command{Kind: api.CmdCache, Volume: "x", Extents: 5, Chunk: 3, Mode: api.WriteBack}
	n, ahead, _ := plan(t, g, on)
	is(t, n, "x", "cache 0+10 x_leg0 x_data x_meta chunk3 mode2; readonly")
	is(t, n, "x_leg0", "linear 0+10 pv0:0; hidden")
	is(t, n, "x_data", "linear 0+5 pv0:11; hidden")
	is(t, n, "x_meta", "linear 0+2 pv0:16; hidden")
	actsAre(t, ahead, api.Act{Kind: api.ActCache, Volume: "x", Number: 6, Count: 3})
	if volumesOf(n) != "x_leg0 m m_leg0 m_leg1 x x_data x_meta" || n.Next != g.Next+3 {
		t.Errorf("the volumes are %s", volumesOf(n))
	}
	n, ahead, _ = plan(t, n, api.Command{Kind: api.CmdUncache, Volume: "x"})
	actsAre(t, ahead, api.Act{Kind: api.ActDetach, Volume: "x"})
	is(t, n, "x", "linear 0+10 pv0:0; readonly")
	if v, _ := model.Volume(n, "x"); v.ID != x.ID || !slices.Equal(v.Tags, x.Tags) || volumesOf(n) != "x m m_leg0 m_leg1" || len(n.History) > 0 {
		t.Errorf("behind CmdUncache: %v, %s", v, volumesOf(n))
	}
	for _, f := range []func(c *api.Command) api.Errno{
		func(c *api.Command) api.Errno { c.Volume, c.Mode = "m", 0; return api.ErrKind }, func(c *api.Command) api.Errno { c.Volume = "zz"; return api.ErrNone }, func(c *api.Command) api.Errno { c.Volume = "m_leg0"; return api.ErrKind }, func(c *api.Command) api.Errno { c.Extents = 0; return api.ErrRange }, func(c *api.Command) api.Errno { c.Extents = 4097; return api.ErrRange }, func(c *api.Command) api.Errno { c.Chunk = 0; return api.ErrRange }, func(c *api.Command) api.Errno { c.Chunk = 65; return api.ErrRange }, func(c *api.Command) api.Errno { c.Mode = 3; return api.ErrRange }, func(c *api.Command) api.Errno { c.Chunk = 21; return api.ErrSize }, func(c *api.Command) api.Errno { c.Extents = 300; return api.ErrSpace },
	} {
		c := on
		want := f(&c)
		refused(t, g, c, want)
	}
	refused(t, g, api.Command{Kind: api.CmdUncache, Volume: "x"}, api.ErrKind)
	big := empty(2)
	for i := range big.Disks {
		big.Disks[i].Extents = 1000
	}
	c := on
	c.Extents, c.Chunk = 500, 1
	n, ahead, _ = plan(t, all(t, big, linear("x", 1)), c)
	actsAre(t, ahead, api.Act{Kind: api.ActCache, Volume: "x", Number: 1024, Count: 1})
	is(t, n, "x_meta", "linear 0+257 pv0:501; hidden")
}

// P35.21
func TestRandomCommands(t *testing.T) {
	for seed := range 150 {
		r := rand.New(rand.NewSource(int64(seed)))
		g := empty(4)
		for range 60 {
			pick := func() string {
				if len(g.Volumes) == 0 || r.Intn(6) == 0 {
					return "v" + strconv.Itoa(r.Intn(5))
				}
				return g.Volumes[r.Intn(len(g.Volumes))].Name
			}
			c := api.Command{Kind: 1 + r.Intn(30), Volume: pick(), Other: pick(), Extents: 1 + r.Intn(8), Parts: 2 + r.Intn(3), Chunk: 1 << r.Intn(3), Policy: 1 + r.Intn(5), Number: r.Intn(4), Mode: 1 + r.Intn(2), Tag: []string{"", "a"}[r.Intn(2)], Disk: api.Disk{Name: "pv" + strconv.Itoa(r.Intn(6)), First: 100, Extents: 50}}
			if c.Kind <= api.CmdSnapshot || c.Kind == api.CmdCut {
				name := &c.Volume
				if c.Kind == api.CmdCut {
					name = &c.Other
				}
				*name = "v" + strconv.Itoa(r.Intn(9))
				c.Tag = ""
			}
			if c.Kind == api.CmdPool {
				c.Number = 210
			}
			n, ahead, _, e := Plan(g, c)
			if e != api.OK {
				continue
			}
			if place, e := model.Check(n); e != api.OK {
				t.Fatalf("seed %d, command %v: %s, %d", seed, c, place, e)
			}
			for _, a := range ahead {
				writesFree(t, g, n, a)
			}
			unchanged(t, g, n, c)
			g = n
		}
	}
}

// writesFree checks that an act writes to no extent that a volume of g has, but for what CmdExtend leaves alone.
func writesFree(t *testing.T, g, n api.Group, a api.Act) {
	t.Helper()
	if a.Kind > api.ActCache {
		return
	}
	written := []string{a.Volume}
	v, _ := model.Volume(n, a.Volume)
	switch a.Kind {
	case api.ActPool:
		written = []string{v.Segments[0].Areas[0].On}
	case api.ActCache:
		written = []string{v.Segments[0].Areas[2].On}
	case api.ActParity:
		written = legsOf(v.Segments[0], -1)
	}
	for _, name := range written {
		v, _ := model.Volume(n, name)
		for _, s := range v.Segments {
			if s.Start*n.Extent < a.From {
				continue
			}
			for _, x := range s.Areas {
				for i := range inArea(s, s.Length) {
					if owner, ok := space.Owner(g, x.On, x.Start+i); ok {
						t.Fatalf("act %v writes to an extent of %s", a, owner)
					}
				}
			}
		}
	}
}

// unchanged checks that volumes which the command does not concern are as they were.
func unchanged(t *testing.T, g, n api.Group, c api.Command) {
	t.Helper()
	for _, v := range g.Volumes {
		root := names.Root(v.Name)
		if root == names.Root(c.Volume) || root == c.Other || c.Kind == api.CmdRename {
			continue
		}
		w, ok := model.Volume(n, v.Name)
		x, y := api.Group{Volumes: []api.Volume{v}}, api.Group{Volumes: []api.Volume{w}}
		if !ok || !model.Same(x, y) {
			t.Fatalf("command %v changes %s", c, v.Name)
		}
	}
}
