package checker

import (
	"math/rand"
	"slices"
	"testing"

	"volumegroup/activate"
	"volumegroup/api"
	"volumegroup/block"
	"volumegroup/copies"
	"volumegroup/describe"
	"volumegroup/disk"
	"volumegroup/execute"
	"volumegroup/model"
	"volumegroup/ring"
	"volumegroup/thinrepair"
)

const group = 77

func do(t *testing.T, s *activate.Stack, l ...api.Command) {
	t.Helper()
	for _, c := range l {
		c.Policy = api.Normal
		if e := execute.Do(s, c); e != api.OK {
			t.Fatalf("command %d of %q: %d", c.Kind, c.Volume, e)
		}
	}
}

// zoo is a group on four disks with a volume of each kind, to which something was written.
func zoo(t *testing.T) *activate.Stack {
	t.Helper()
	a, _ := disk.New([]int{2900, 2900, 2900, 2900})
	if _, e := activate.Init(a, "vg", group, 4, 2100); e != api.OK {
		t.Fatal(e)
	}
	s, e := activate.Start(a, group)
	if e != api.OK {
		t.Fatal(e)
	}
	do(t, s, api.Command{Kind: api.CmdLinear, Volume: "lin", Extents: 3}, api.Command{Kind: api.CmdMirror, Volume: "mir", Extents: 2, Parts: 2, Chunk: 4, Number: 1}, api.Command{Kind: api.CmdParity, Volume: "par", Extents: 4, Parts: 3, Chunk: 4},
		api.Command{Kind: api.CmdPool, Volume: "pool", Extents: 4, Number: 210, Chunk: 2}, api.Command{Kind: api.CmdThin, Volume: "thin", Other: "pool", Extents: 3}, api.Command{Kind: api.CmdThin, Volume: "thin2", Other: "pool", Extents: 3}, api.Command{Kind: api.CmdLinear, Volume: "cac", Extents: 4}, api.Command{Kind: api.CmdCache, Volume: "cac", Extents: 2, Chunk: 2, Mode: api.WriteBack})
	for _, n := range []string{"lin", "mir", "par", "thin", "cac", "cac"} {
		for at := range 8 {
			if e := s.Write(n, at, uint64(at+1)); e != api.OK {
				t.Fatal(e)
			}
		}
	}
	if e := s.Sync(); e != api.OK {
		t.Fatal(e)
	}
	return s
}

func imagesOf(a *disk.Array) [][]uint64 {
	var l [][]uint64
	for d := range a.Count() {
		x, _ := a.Image(d)
		l = append(l, x)
	}
	return l
}

// area returns the metadata area of a disk.
func area(a *disk.Array, d int) block.Device {
	x, _ := block.Span(a, d, 8, 2100)
	return x
}

// sectorOf returns the sector of a disk that has a sector of a simple volume.
func sectorOf(g api.Group, name string, at int) (d, sector int) {
	v, _ := model.Volume(g, name)
	for _, s := range v.Segments {
		if e := at/g.Extent - s.Start; e >= 0 && e < s.Length {
			d = slices.IndexFunc(g.Disks, func(d api.Disk) bool { return d.Name == s.Areas[0].On })
			return d, g.Disks[d].First + (s.Areas[0].Start+e)*g.Extent + at%g.Extent
		}
	}
	return 0, 0
}

func at(kind int, where string, at, more int) api.Violation {
	return api.Violation{Kind: kind, Where: where, At: at, More: more}
}

// P39.1
func TestCheck(t *testing.T) {
	s := zoo(t)
	c, _ := s.Cache("cac")
	c.Clean(9)
	if e := c.Close(); e != api.OK {
		t.Fatal(e)
	}
	a, g := s.Array(), s.Group()
	if l := Check(imagesOf(a), group); len(l) > 0 {
		t.Fatalf("nothing is wrong: %v", l)
	}
	flip := func(a *disk.Array, name string, at int) {
		d, n := sectorOf(g, name, at)
		w, _ := a.Read(d, n)
		a.Write(d, n, w^1)
	}
	commit := func(a *disk.Array, text string) {
		copies.Commit([]block.Device{area(a, 0), area(a, 1), area(a, 2), area(a, 3)}, 900, text)
	}
	text := func(f func(g *api.Group)) string {
		g := s.Group()
		f(&g)
		x, e := describe.Text(g)
		if e != api.OK {
			t.Fatal(e)
		}
		return x
	}
	seq := g.Seq
	for i, c := range []struct {
		f    func(a *disk.Array)
		want []api.Violation
	}{
		{func(a *disk.Array) { a.Write(1, 6, 5) }, append([]api.Violation{at(1, "label", 1, int(api.ErrSum)), at(7, "pv1", 0, 0)}, partials(t, s, 1)...)},
		{func(a *disk.Array) { a.Write(1, 0, 5) }, append([]api.Violation{at(7, "pv1", 0, 0)}, partials(t, s, 1)...)},
		{func(a *disk.Array) { a.Write(2, 8, 1<<40|9) }, []api.Violation{at(2, "copy", 2, 0)}},
		{func(a *disk.Array) { ring.Clear(area(a, 2)) }, nil},
		{func(a *disk.Array) {
			copies.Commit([]block.Device{area(a, 0), area(a, 1), area(a, 3)}, seq+1, text(func(*api.Group) {}))
		}, []api.Violation{at(5, "old", 2, seq)}},
		{func(a *disk.Array) {
			for d := range 4 {
				ring.Format(area(a, d))
			}
		}, []api.Violation{at(3, "none", 0, 0)}},
		{func(a *disk.Array) {
			copies.Commit([]block.Device{area(a, 0)}, 900, "a = 1")
			copies.Commit([]block.Device{area(a, 1)}, 900, "a = 2")
		}, []api.Violation{at(4, "conflict", 0, 0)}},
		{func(a *disk.Array) { commit(a, "a = ") }, []api.Violation{at(6, "text", 0, int(api.ErrSyntax))}},
		{func(a *disk.Array) { commit(a, text(func(g *api.Group) { g.ID = 5 })) }, []api.Violation{at(6, "text", 0, int(api.ErrDamage))}},
		{func(a *disk.Array) { commit(a, text(func(g *api.Group) { g.Disks[3].First -= 4 })) }, []api.Violation{at(8, "pv3", 0, 0)}},
		{func(a *disk.Array) { commit(a, text(func(g *api.Group) { g.Disks[3].Extents += 1 })) }, []api.Violation{at(8, "pv3", 0, 0)}},
		{func(a *disk.Array) { flip(a, "mir_leg1", 3) }, []api.Violation{at(13, "mir", 3, 0)}},
		{func(a *disk.Array) { flip(a, "mir_leg0", 7); flip(a, "mir_leg1", 2) }, []api.Violation{at(13, "mir", 2, 0), at(13, "mir", 7, 0)}},
		{func(a *disk.Array) { flip(a, "par_leg1", 16) }, []api.Violation{at(14, "par", 0, 0)}},
		{func(a *disk.Array) { flip(a, "cac_leg0", 2) }, []api.Violation{at(15, "cac", 1, 0)}},
	} {
		b := a.Copy()
		c.f(b)
		got := Check(imagesOf(b), group)
		if !slices.Equal(got, c.want) {
			t.Errorf("damage %d: %v, not %v", i, got, c.want)
		}
	}
	if l := Check(imagesOf(a), 5); !slices.Equal(l, []api.Violation{at(3, "none", 0, 0)}) {
		t.Error("another group")
	}
	for _, l := range [][][]uint64{make([][]uint64, 9), {nil}, {make([]uint64, 65537)}} {
		if got := Check(l, group); !slices.Equal(got, []api.Violation{at(0, "images", 0, 0)}) {
			t.Errorf("no array: %v", got)
		}
	}
}

// partials is what the check says of volumes when a disk is absent.
func partials(t *testing.T, s *activate.Stack, d int) []api.Violation {
	t.Helper()
	a := s.Array().Copy()
	a.SetMissing(d, true)
	var l []api.Violation
	for _, x := range activate.Build(a, s.Group()).Report() {
		if x.State == api.StatePartial {
			l = append(l, at(9, x.Name, 0, int(x.Error)))
		}
	}
	return l
}

func TestThinViolations(t *testing.T) {
	s := zoo(t)
	p, _ := s.Pool("pool")
	p.Create(40)
	p.Delete(2)
	p.Commit()
	if l := Check(imagesOf(s.Array()), group); !slices.Equal(l, []api.Violation{at(9, "thin2", 0, int(api.ErrDevice)), at(11, "pool", 40, 0), at(12, "thin2", 2, 0)}) {
		t.Errorf("orphans: %v", l)
	}
	d, n := sectorOf(s.Group(), "pool_meta", 0)
	s.Array().Write(d, n, 5)
	l := Check(imagesOf(s.Array()), group)
	if k := slices.IndexFunc(l, func(v api.Violation) bool { return v.Kind == 10 }); k < 0 || l[k] != at(10, "pool", 1, 0) || slices.ContainsFunc(l, func(v api.Violation) bool { return v.Kind > 10 }) {
		t.Errorf("a commit word that is damaged: %v", l)
	}
}

func TestManyViolations(t *testing.T) {
	a, _ := disk.New([]int{2900, 2900, 2900})
	activate.Init(a, "vg", group, 4, 2100)
	s, _ := activate.Start(a, group)
	do(t, s, api.Command{Kind: api.CmdMirror, Volume: "m", Extents: 30, Parts: 2, Chunk: 4, Number: 1})
	if e := s.Sync(); e != api.OK {
		t.Fatal(e)
	}
	for at := range 100 {
		d, n := sectorOf(s.Group(), "m_leg1", at)
		a.Write(d, n, 9)
	}
	l := Check(imagesOf(a), group)
	if len(l) != api.MaxViolations || l[63] != at(13, "m", 63, 0) {
		t.Errorf("%d violations", len(l))
	}
}

// P39.2
func TestMend(t *testing.T) {
	s := zoo(t)
	do(t, s, api.Command{Kind: api.CmdLinear, Volume: "spare", Extents: 210}, api.Command{Kind: api.CmdLinear, Volume: "tiny", Extents: 3})
	for i, c := range []struct {
		pool, spare string
		want        api.Errno
	}{{"zz", "spare", api.ErrNone}, {"pool", "zz", api.ErrNone}, {"lin", "spare", api.ErrKind}, {"pool", "mir", api.ErrKind}, {"pool", "mir_leg0", api.ErrKind}, {"pool", "tiny", api.ErrSize}} {
		if n, e := Mend(s, c.pool, c.spare); n != 0 || e != c.want {
			t.Errorf("Mend %d: %d", i, e)
		}
	}
	// A node of the mapping tree is damaged: what can be read is saved.
	g := s.Group()
	d, first := sectorOf(g, "pool_meta", 0)
	w, _ := s.Array().Read(d, first)
	s.Array().Write(d, first, w^1)
	s, e := activate.Start(s.Array(), group)
	if e != api.OK {
		t.Fatal(e)
	}
	if _, e := s.Read("thin", 0); e == api.OK {
		t.Fatal("the pool is damaged")
	}
	if n, e := Mend(s, "pool", "spare"); n != 0 || e != api.OK {
		t.Fatalf("Mend: %d, %d", n, e)
	}
	for at := range 8 {
		if v, e := s.Read("thin", at); v != uint64(at+1) || e != api.OK {
			t.Errorf("sector %d is %d, %d", at, v, e)
		}
	}
	if l := Check(imagesOf(s.Array()), group); slices.ContainsFunc(l, func(v api.Violation) bool { return v.Kind >= 9 }) {
		t.Errorf("behind Mend: %v", l)
	}
	v, _ := model.Volume(s.Group(), "spare")
	old, _ := model.Volume(g, "pool_meta")
	if !slices.EqualFunc(v.Segments, old.Segments, func(a, b api.Segment) bool { return slices.Equal(a.Areas, b.Areas) }) {
		t.Error("the segments are exchanged")
	}
	x, _ := s.Raw(s.Group(), "pool_meta")
	var l []uint64
	for at := range x.Size() {
		w, _ := x.Read(at)
		l = append(l, w)
	}
	if dump, e := thinrepair.Dump(l); e != api.OK || len(dump.Devices) != 2 {
		t.Error("the repaired metadata")
	}
	for at := range x.Size() {
		x.Write(at, 0)
	}
	if _, e := Mend(s, "pool", "spare"); e == api.OK {
		t.Error("nothing can be saved")
	}
}

// P39.3
func TestNothingIsWrong(t *testing.T) {
	for seed := range 60 {
		r := rand.New(rand.NewSource(int64(seed)))
		s := zoo(t)
		a := s.Array()
		for range 3 {
			a.Fuse(1 + r.Intn(400))
			for range 25 {
				if a.Down() {
					break
				}
				n := []string{"lin", "mir", "par", "thin", "cac", "thin2"}[r.Intn(6)]
				switch r.Intn(8) {
				case 0:
					s.Flush(n)
				case 1:
					c := []api.Command{{Kind: api.CmdLinear, Volume: "x", Extents: 2, Policy: api.Normal}, {Kind: api.CmdSnapshot, Volume: "y", Other: "thin"}, {Kind: api.CmdRemove, Volume: "x"}, {Kind: api.CmdRemove, Volume: "y"}, {Kind: api.CmdExtend, Volume: "lin", Extents: 1, Policy: api.Normal}, {Kind: api.CmdLegNew, Volume: "mir", Number: 1, Policy: api.Normal}}[r.Intn(6)]
					execute.Do(s, c)
				case 2:
					if l := execute.Work(s); len(l) > 0 {
						execute.Step(s, l[r.Intn(len(l))], 1+r.Intn(5))
					}
				default:
					s.Write(n, r.Intn(8), r.Uint64())
				}
				nothing(t, a, seed)
			}
			keep := make([]bool, a.Unflushed())
			for i := range keep {
				keep[i] = r.Intn(2) == 0
			}
			a.Restart(keep)
			nothing(t, a, seed)
			var e api.Errno
			if s, e = activate.Start(a, group); e != api.OK {
				t.Fatal(e)
			}
			nothing(t, a, seed)
		}
	}
}

// nothing checks that nothing is wrong but for devices of commands that were interrupted, and copies within a commit.
func nothing(t *testing.T, a *disk.Array, seed int) {
	t.Helper()
	for _, v := range Check(imagesOf(a), group) {
		if v.Kind != orphan && v.Kind != oldCopy {
			t.Fatalf("seed %d: %v", seed, v)
		}
	}
}
