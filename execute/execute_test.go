package execute

import (
	"math/rand"
	"slices"
	"testing"

	"volumegroup/activate"
	"volumegroup/api"
	"volumegroup/block"
	"volumegroup/describe"
	"volumegroup/disk"
	"volumegroup/label"
	"volumegroup/model"
	"volumegroup/plan"
	"volumegroup/ring"
)

const group = 77

// started is a group on disks with 150 extents of 4 sectors, that is active; the last disks of the array are not in it.
func started(t *testing.T, disks, more int) *activate.Stack {
	t.Helper()
	a, e := disk.New(slices.Repeat([]int{8 + 2100 + 600}, disks))
	if e != api.OK {
		t.Fatal(e)
	}
	if _, e := activate.Init(a, "vg", group, 4, 2100); e != api.OK {
		t.Fatalf("Init: %d", e)
	}
	for d := disks - more; d < disks; d++ {
		x, _ := block.Span(a, d, 0, a.Size(d))
		label.Erase(x)
	}
	s := start(t, a)
	if more > 0 {
		g := s.Group()
		g.Disks = g.Disks[:disks-more]
		if e := s.Change(g); e != api.OK {
			t.Fatal(e)
		}
	}
	return s
}

func start(t *testing.T, a *disk.Array) *activate.Stack {
	t.Helper()
	s, e := activate.Start(a, group)
	if e != api.OK {
		t.Fatalf("Start: %d", e)
	}
	return s
}

func is(t *testing.T, e, want api.Errno, what string) {
	t.Helper()
	if e != want {
		t.Errorf("%s: %d, not %d", what, e, want)
	}
}

func do(t *testing.T, s *activate.Stack, l ...api.Command) {
	t.Helper()
	for _, c := range l {
		if c.Policy == 0 {
			c.Policy = api.Normal
		}
		if e := Do(s, c); e != api.OK {
			t.Fatalf("command %d of %q: %d", c.Kind, c.Volume, e)
		}
	}
}

func write(t *testing.T, s *activate.Stack, name string, at int, v uint64) {
	t.Helper()
	is(t, s.Write(name, at, v), api.OK, "Write to "+name)
}

func reads(t *testing.T, s *activate.Stack, name string, at int, want uint64) {
	t.Helper()
	if v, e := s.Read(name, at); v != want || e != api.OK {
		t.Errorf("sector %d of %s is %d, %d, not %d", at, name, v, e, want)
	}
}

// fillWith writes to all sectors of a volume, and checks them.
func fillWith(t *testing.T, s *activate.Stack, name string, from uint64) {
	t.Helper()
	for at := range model.Sectors(s.Group(), name) {
		write(t, s, name, at, from+uint64(at))
	}
}

func hasAll(t *testing.T, s *activate.Stack, name string, from uint64, n int) {
	t.Helper()
	for at := range n {
		reads(t, s, name, at, from+uint64(at))
	}
}

func linear(name string, n int) api.Command {
	return api.Command{Kind: api.CmdLinear, Volume: name, Extents: n}
}

func pool() []api.Command {
	return []api.Command{{Kind: api.CmdPool, Volume: "p", Extents: 8, Number: 210, Chunk: 4}, {Kind: api.CmdThin, Volume: "t", Other: "p", Extents: 5}}
}

// P37.1
func TestDo(t *testing.T) {
	s := started(t, 3, 0)
	for _, kind := range []int{api.CmdStep, api.CmdFinish, api.CmdStale, api.CmdFresh} {
		is(t, Do(s, api.Command{Kind: kind, Volume: "zz"}), api.ErrKind, "an internal command")
	}
	is(t, Do(s, linear("", 1)), api.ErrName, "the error of the plan")
	// Garbage on the disk is zeroed ahead of the commit.
	for at := 2108; at < 2200; at++ {
		s.Array().Write(0, at, 9)
	}
	n := s.Array().Writes()
	do(t, s, linear("x", 2))
	hasZero(t, s, "x")
	if got := s.Array().Writes() - n; got < 8 {
		t.Errorf("%d writes", got)
	}
	// A leg that fails while the command is carried out: it begins anew.
	do(t, s, api.Command{Kind: api.CmdMirror, Volume: "m", Extents: 1, Parts: 2, Chunk: 4})
	write(t, s, "m", 0, 5)
	s.Array().SetMissing(1, true)
	do(t, s, api.Command{Kind: api.CmdTag, Volume: "m", Tag: "new"})
	g := s.Group()
	if v, _ := model.Volume(g, "m"); !slices.Equal(v.Tags, []string{"new"}) || !slices.Equal(v.Segments[0].Stale, []int{1}) || !g.Disks[1].Missing {
		t.Errorf("behind a failure: %v", v)
	}
	s.Array().Fuse(3)
	is(t, Do(s, api.Command{Kind: api.CmdLinear, Volume: "y", Extents: 2, Policy: api.Normal}), api.ErrPower, "the power")
}

func hasZero(t *testing.T, s *activate.Stack, name string) {
	t.Helper()
	for at := range model.Sectors(s.Group(), name) {
		reads(t, s, name, at, 0)
	}
}

// P37.2
func TestActs(t *testing.T) {
	s := started(t, 4, 1)
	for d := range 3 {
		for at := 2108; at < 2708; at++ {
			s.Array().Write(d, at, uint64(at))
		}
	}
	do(t, s, linear("lin", 2), api.Command{Kind: api.CmdStriped, Volume: "str", Extents: 2, Parts: 2, Chunk: 2}, api.Command{Kind: api.CmdMirror, Volume: "mir", Extents: 2, Parts: 2, Chunk: 4, Number: 1}, api.Command{Kind: api.CmdParity, Volume: "par", Extents: 2, Parts: 3, Chunk: 4})
	do(t, s, pool()...)
	for _, n := range []string{"lin", "str", "mir", "par", "t"} {
		hasZero(t, s, n)
	}
	fillWith(t, s, "lin", 100)
	do(t, s, api.Command{Kind: api.CmdExtend, Volume: "lin", Extents: 1})
	hasAll(t, s, "lin", 100, 8)
	reads(t, s, "lin", 8, 0)
	// Thin volumes: a snapshot, growth behind shrinking, removal.
	fillWith(t, s, "t", 200)
	do(t, s, api.Command{Kind: api.CmdSnapshot, Volume: "snap", Other: "t"})
	write(t, s, "t", 3, 1)
	hasAll(t, s, "snap", 200, 20)
	do(t, s, api.Command{Kind: api.CmdShrink, Volume: "snap", Extents: 2}, api.Command{Kind: api.CmdExtend, Volume: "snap", Extents: 3})
	hasAll(t, s, "snap", 200, 8)
	for at := 8; at < 20; at++ {
		reads(t, s, "snap", at, 0)
	}
	p, _ := s.Pool("p")
	if !slices.Equal(p.Meta().Devices(), []int{1, 2}) {
		t.Errorf("the devices of the pool: %v", p.Meta().Devices())
	}
	do(t, s, api.Command{Kind: api.CmdRemove, Volume: "snap"})
	if p, _ = s.Pool("p"); !slices.Equal(p.Meta().Devices(), []int{1}) {
		t.Error("ActDrop")
	}
	// A device that an interrupted command has left is made anew.
	p.Create(2)
	p.Write(2, 0, 77)
	do(t, s, api.Command{Kind: api.CmdThin, Volume: "t2", Other: "p", Extents: 1})
	hasZero(t, s, "t2")
	is(t, s.Write("t2", 0, 5), api.OK, "Write")
	// A cache comes and goes.
	do(t, s, api.Command{Kind: api.CmdCache, Volume: "lin", Extents: 2, Chunk: 2, Mode: api.WriteBack})
	hasAll(t, s, "lin", 100, 8)
	write(t, s, "lin", 0, 50)
	write(t, s, "lin", 0, 51)
	do(t, s, api.Command{Kind: api.CmdUncache, Volume: "lin"})
	reads(t, s, "lin", 0, 51)
	// A leg comes off a mirror that is dirty.
	fillWith(t, s, "mir", 300)
	do(t, s, api.Command{Kind: api.CmdLegOff, Volume: "mir", Number: 1, Other: "half"})
	hasAll(t, s, "mir", 300, 8)
	hasAll(t, s, "half", 300, 8)
}

func TestTrimWithinBlock(t *testing.T) {
	s := started(t, 3, 0)
	do(t, s, api.Command{Kind: api.CmdPool, Volume: "p", Extents: 8, Number: 210, Chunk: 6}, api.Command{Kind: api.CmdThin, Volume: "t", Other: "p", Extents: 5})
	fillWith(t, s, "t", 1)
	do(t, s, api.Command{Kind: api.CmdShrink, Volume: "t", Extents: 2}, api.Command{Kind: api.CmdExtend, Volume: "t", Extents: 2})
	hasAll(t, s, "t", 1, 8)
	for at := 8; at < 16; at++ {
		reads(t, s, "t", at, 0)
	}
}

func TestDiskActs(t *testing.T) {
	s := started(t, 4, 1)
	add := func(name string, number, first, extents, area int) api.Command {
		return api.Command{Kind: api.CmdDiskAdd, Disk: api.Disk{Name: name, First: first, Extents: extents}, Number: number, Extents: area}
	}
	for i, c := range []struct {
		c    api.Command
		want api.Errno
	}{
		{add("pv9", 4, 0, 10, 9), api.ErrRange}, {add("pv9", -1, 0, 10, 9), api.ErrRange}, {add("pv9", 1, 0, 10, 9), api.ErrUse}, {add("pv9", 3, 2107, 10, 2100), api.ErrSize}, {add("pv9", 3, 2108, 151, 2100), api.ErrSize}, {add("pv9", 3, 100, 10, 3), api.ErrRange}, {add("pv1", 3, 0, 10, 9), api.ErrTwice},
	} {
		n := s.Array().Writes()
		if e := Do(s, c.c); e != c.want || s.Array().Writes() != n {
			t.Errorf("CmdDiskAdd %d: %d", i, e)
		}
	}
	do(t, s, add("pv9", 3, 2108, 150, 2100), linear("x", 460))
	fillWith(t, s, "x", 5)
	if n, ok := s.Number("pv9"); n != 3 || !ok || !slices.Equal(activate.Found(s.Array(), group), []int{0, 1, 2, 3}) {
		t.Error("CmdDiskAdd")
	}
	s = start(t, s.Array())
	hasAll(t, s, "x", 5, 460*4)
	do(t, s, api.Command{Kind: api.CmdRemove, Volume: "x"}, api.Command{Kind: api.CmdDiskRemove, Disk: api.Disk{Name: "pv1"}})
	if !slices.Equal(activate.Found(s.Array(), group), []int{0, 2, 3}) {
		t.Error("CmdDiskRemove")
	}
	s = start(t, s.Array())
	if g := s.Group(); len(g.Disks) != 3 || g.Disks[2].Missing {
		t.Errorf("the disks: %v", g.Disks)
	}
}

// P37.3, P37.4
func TestWorkStep(t *testing.T) {
	s := started(t, 4, 0)
	do(t, s, linear("x", 3), api.Command{Kind: api.CmdMirror, Volume: "m", Extents: 2, Parts: 2, Chunk: 4, Number: 1}, api.Command{Kind: api.CmdParity, Volume: "r", Extents: 4, Parts: 3, Chunk: 4})
	if l := Work(s); len(l) != 0 {
		t.Errorf("nothing is left: %v", l)
	}
	fillWith(t, s, "x", 10)
	fillWith(t, s, "m", 20)
	fillWith(t, s, "r", 40)
	do(t, s, api.Command{Kind: api.CmdMove, Volume: "x"}, api.Command{Kind: api.CmdLegNew, Volume: "m", Number: 1}, api.Command{Kind: api.CmdLegNew, Volume: "r", Number: 0})
	moveX, fillM, fillR := api.Work{Kind: api.WorkMove, Volume: "x"}, api.Work{Kind: api.WorkFill, Volume: "m", Number: 1}, api.Work{Kind: api.WorkFill, Volume: "r"}
	if l := Work(s); !slices.Equal(l, []api.Work{moveX, fillM, fillR}) {
		t.Errorf("Work: %v", l)
	}
	for i, c := range []struct {
		w    api.Work
		n    int
		want api.Errno
	}{{moveX, 0, api.ErrRange}, {api.Work{}, -1, api.ErrRange}, {api.Work{}, 1, api.ErrNone}, {api.Work{Kind: api.WorkMove, Volume: "x", Number: 1}, 1, api.ErrNone}, {api.Work{Kind: api.WorkSync, Volume: "m"}, 1, api.ErrNone}} {
		if done, e := Step(s, c.w, c.n); done || e != c.want {
			t.Errorf("Step %d: %d", i, e)
		}
	}
	if done, e := Step(s, moveX, 2); done || e != api.OK {
		t.Error("two extents")
	}
	if v, _ := model.Volume(s.Group(), "x"); v.Segments[0].Done != 2 {
		t.Error("Done is recorded")
	}
	write(t, s, "x", 0, 11)
	write(t, s, "x", 11, 12)
	if done, e := Step(s, moveX, 9); !done || e != api.OK {
		t.Errorf("the move ends: %d", e)
	}
	if v, _ := model.Volume(s.Group(), "x"); v.Segments[0].Kind != api.SegLinear {
		t.Error("CmdFinish")
	}
	reads(t, s, "x", 0, 11)
	reads(t, s, "x", 5, 15)
	reads(t, s, "x", 11, 12)
	finish(t, s)
	hasAll(t, s, "m", 20, 8)
	hasAll(t, s, "r", 40, 16)
	for _, n := range []string{"m", "r"} {
		if v, _ := model.Volume(s.Group(), n); len(v.Segments[0].Stale) > 0 {
			t.Errorf("a leg of %s is stale", n)
		}
	}
	// The legs that were filled have it all.
	s.Array().SetMissing(0, true)
	hasAll(t, s, "m", 20, 8)
	hasAll(t, s, "r", 40, 16)
}

// finish goes on with all work until nothing is left.
func finish(t *testing.T, s *activate.Stack) {
	t.Helper()
	for range 1000 {
		l := Work(s)
		if len(l) == 0 {
			return
		}
		if _, e := Step(s, l[0], 3); e != api.OK {
			t.Fatalf("Step of %v: %d", l[0], e)
		}
	}
	t.Fatal("work without end")
}

// lostLegs is a group of three disks with a mirror and a volume with parity, of which disk 1 has gone missing and both have
// been written since.
func lostLegs(t *testing.T) *activate.Stack {
	t.Helper()
	s := started(t, 3, 0)
	do(t, s, api.Command{Kind: api.CmdMirror, Volume: "m", Extents: 2, Parts: 2, Chunk: 4, Number: 1}, api.Command{Kind: api.CmdParity, Volume: "r", Extents: 4, Parts: 3, Chunk: 4})
	fillWith(t, s, "m", 20)
	fillWith(t, s, "r", 40)
	s.Array().SetMissing(1, true)
	fillWith(t, s, "m", 120)
	fillWith(t, s, "r", 140)
	return s
}

func stale(s *activate.Stack, name string) []int {
	v, _ := model.Volume(s.Group(), name)
	return v.Segments[0].Stale
}

// P37.3, P37.4: a stale leg that is open is work, whether its disk is there at the moment or not.
func TestFillWithoutDisk(t *testing.T) {
	s := lostLegs(t)
	work := []api.Work{{Kind: api.WorkFill, Volume: "m", Number: 1}, {Kind: api.WorkFill, Volume: "r", Number: 1}}
	for range 3 {
		if l := Work(s); !slices.Equal(l, work) {
			t.Fatalf("Work while the disk is away: %v", l)
		}
		for _, w := range work {
			if done, e := Step(s, w, 100); done || e != api.OK {
				t.Errorf("Step of %v while the disk is away: %v, %d", w, done, e)
			}
		}
	}
	hasAll(t, s, "m", 120, 8)
	hasAll(t, s, "r", 140, 16)
	s.Array().SetMissing(1, false)
	for _, w := range work {
		if done, e := Step(s, w, 1); done || e != api.OK {
			t.Errorf("the first step of %v: %v, %d", w, done, e)
		}
		if done, e := Step(s, w, 100); !done || e != api.OK || len(stale(s, w.Volume)) > 0 {
			t.Errorf("the last step of %v: %v, %d", w, done, e)
		}
	}
	if l := Work(s); len(l) > 0 || !s.Group().Disks[1].Missing {
		t.Errorf("Work behind all steps: %v", l)
	}
	// What a command changes to keeps what is read; then another disk may be lost.
	do(t, s, api.Command{Kind: api.CmdTag, Volume: "m", Tag: "new"})
	hasAll(t, s, "m", 120, 8)
	hasAll(t, s, "r", 140, 16)
	s.Array().SetMissing(0, true)
	hasAll(t, s, "m", 120, 8)
	hasAll(t, s, "r", 140, 16)
	do(t, s, api.Command{Kind: api.CmdTag, Volume: "m", Tag: "newer"})
	hasAll(t, s, "m", 120, 8)
	hasAll(t, s, "r", 140, 16)
}

// P37.3: a stale leg that has not been opened is no work; behind the next change of the description it can be.
func TestFillOfClosedLegs(t *testing.T) {
	s := start(t, lostLegs(t).Array())
	if l := Work(s); !slices.Equal(l, []api.Work{{Kind: api.WorkSync, Volume: "m"}}) {
		t.Errorf("Work: %v", l)
	}
	finish(t, s)
	s.Array().SetMissing(1, false)
	if l := Work(s); len(l) > 0 {
		t.Errorf("the legs were not opened: %v", l)
	}
	do(t, s, api.Command{Kind: api.CmdTag, Volume: "m", Tag: "new"})
	if l := Work(s); len(l) != 2 {
		t.Errorf("the legs are open: %v", l)
	}
	finish(t, s)
	s = start(t, s.Array())
	s.Array().SetMissing(0, true)
	hasAll(t, s, "m", 120, 8)
	hasAll(t, s, "r", 140, 16)
}

// P37.3: what was recorded and not opened is no work.
func TestWorkOfRecorded(t *testing.T) {
	s := started(t, 2, 0)
	g, _, _, e := plan.Plan(s.Group(), api.Command{Kind: api.CmdMirror, Policy: api.Normal, Volume: "m", Extents: 2, Parts: 2, Chunk: 4})
	is(t, e, api.OK, "Plan")
	is(t, s.Record(g), api.OK, "Record")
	if l := Work(s); len(l) > 0 {
		t.Errorf("Work: %v", l)
	}
}

func TestSyncWork(t *testing.T) {
	s := started(t, 3, 0)
	do(t, s, api.Command{Kind: api.CmdMirror, Volume: "m", Extents: 2, Parts: 2, Chunk: 4, Number: 1})
	fillWith(t, s, "m", 20)
	s.Array().Restart(nil)
	s = start(t, s.Array())
	w := api.Work{Kind: api.WorkSync, Volume: "m"}
	if l := Work(s); !slices.Equal(l, []api.Work{w}) {
		t.Fatalf("Work: %v", l)
	}
	if done, e := Step(s, w, 5); done || e != api.OK {
		t.Error("Step")
	}
	if done, e := Step(s, w, 3); !done || e != api.OK {
		t.Error("the last step")
	}
	// ErrLeg is dealt with.
	fillWith(t, s, "m", 20)
	s.Array().Restart(nil)
	s = start(t, s.Array())
	s.Array().SetMissing(1, true)
	if done, e := Step(s, w, 5); done || e != api.OK {
		t.Errorf("Step with a failed leg: %v, %d", done, e)
	}
	if v, _ := model.Volume(s.Group(), "m"); !slices.Equal(v.Segments[0].Stale, []int{1}) {
		t.Error("the leg is stale")
	}
	s.Array().SetMissing(0, true)
	if done, e := Step(s, w, 5); done || e == api.OK {
		t.Error("no good leg")
	}
}

// keep chooses what survives.
func keep(r *rand.Rand, n int) []bool {
	l := make([]bool, n)
	for i := range l {
		l[i] = r.Intn(2) == 0
	}
	return l
}

// plain is the text of a description but for its number.
func plain(t *testing.T, g api.Group) string {
	t.Helper()
	g.Seq = 0
	s, e := describe.Text(g)
	if e != api.OK {
		t.Fatal(e)
	}
	return s
}

// commands is one command of each kind for a group with the volumes x, y, m, c and t.
func commands() []api.Command {
	return []api.Command{
		linear("new", 2), {Kind: api.CmdStriped, Volume: "new", Extents: 2, Parts: 2, Chunk: 2}, {Kind: api.CmdMirror, Volume: "new", Extents: 1, Parts: 2, Chunk: 4, Number: 1}, {Kind: api.CmdParity, Volume: "new", Extents: 2, Parts: 3, Chunk: 4}, {Kind: api.CmdThin, Volume: "new", Other: "p", Extents: 3}, {Kind: api.CmdSnapshot, Volume: "new", Other: "t"},
		{Kind: api.CmdExtend, Volume: "x", Extents: 2}, {Kind: api.CmdExtend, Volume: "t", Extents: 2}, {Kind: api.CmdShrink, Volume: "x", Extents: 1}, {Kind: api.CmdRemove, Volume: "x"}, {Kind: api.CmdRemove, Volume: "t"}, {Kind: api.CmdRename, Volume: "m", Other: "new"}, {Kind: api.CmdCut, Volume: "x", Other: "new", Number: 1}, {Kind: api.CmdJoin, Volume: "x", Other: "y"},
		{Kind: api.CmdLegOn, Volume: "x", Chunk: 4}, {Kind: api.CmdLegOff, Volume: "m", Number: 0}, {Kind: api.CmdLegOff, Volume: "m", Number: 0, Other: "new"}, {Kind: api.CmdLegNew, Volume: "m", Number: 1}, {Kind: api.CmdMove, Volume: "x"}, {Kind: api.CmdCache, Volume: "x", Extents: 1, Chunk: 2, Mode: api.WriteBack}, {Kind: api.CmdUncache, Volume: "c"},
	}
}

// P37.5
func TestCommandsAreAtomic(t *testing.T) {
	base := started(t, 4, 0)
	do(t, base, linear("x", 2), linear("y", 1), api.Command{Kind: api.CmdMirror, Volume: "m", Extents: 1, Parts: 2, Chunk: 4, Number: 1}, linear("c", 2), api.Command{Kind: api.CmdCache, Volume: "c", Extents: 1, Chunk: 2, Mode: api.WriteBack})
	do(t, base, pool()...)
	vols := map[string]uint64{"x": 100, "y": 200, "m": 300, "c": 400, "t": 500}
	for n, from := range vols {
		fillWith(t, base, n, from)
		fillWith(t, base, n, from)
	}
	is(t, base.Sync(), api.OK, "Sync")
	old := plain(t, base.Group())
	for i, c := range commands() {
		c.Policy = api.Normal
		whole := base.Array().Copy()
		s := start(t, whole)
		before := whole.Writes()
		if e := Do(s, c); e != api.OK {
			t.Fatalf("command %d: %d", i, e)
		}
		writes := whole.Writes() - before
		now := plain(t, s.Group())
		r := rand.New(rand.NewSource(int64(i)))
		for range 25 {
			a := base.Array().Copy()
			s := start(t, a)
			a.Fuse(1 + r.Intn(writes))
			if e := Do(s, c); e != api.ErrPower {
				t.Fatalf("command %d: %d", i, e)
			}
			a.Restart(keep(r, a.Unflushed()))
			s = start(t, a)
			got := plain(t, s.Group())
			if got != old && got != now {
				t.Fatalf("command %d: the description is neither the old one nor the new one:\n%s", i, got)
			}
			for n, from := range vols {
				size := min(model.Sectors(s.Group(), n), 4)
				if size > 0 && !(n == "x" && got == now && c.Kind == api.CmdJoin) {
					hasAll(t, s, n, from, size)
				}
			}
			if got == now && model.Sectors(s.Group(), "new") > 0 {
				wants := map[int]uint64{api.CmdSnapshot: 500, api.CmdRename: 300, api.CmdCut: 104, api.CmdLegOff: 300}
				if from, ok := wants[c.Kind]; ok {
					hasAll(t, s, "new", from, 4)
				} else {
					hasZero(t, s, "new")
				}
			}
			if t.Failed() {
				t.Fatalf("command %d", i)
			}
		}
	}
}

// P37.6
func TestInterruptedSteps(t *testing.T) {
	setUp := func() *activate.Stack {
		s := started(t, 4, 0)
		do(t, s, linear("x", 3), api.Command{Kind: api.CmdMirror, Volume: "m", Extents: 1, Parts: 2, Chunk: 4, Number: 1}, api.Command{Kind: api.CmdParity, Volume: "r", Extents: 2, Parts: 3, Chunk: 4})
		for i, n := range []string{"x", "m", "r"} {
			fillWith(t, s, n, uint64(1000*i+1))
		}
		do(t, s, api.Command{Kind: api.CmdMove, Volume: "x"}, api.Command{Kind: api.CmdLegOn, Volume: "m"}, api.Command{Kind: api.CmdLegNew, Volume: "r", Number: 1})
		return s
	}
	s := setUp()
	finish(t, s)
	want := plain(t, s.Group())
	for seed := range 40 {
		r := rand.New(rand.NewSource(int64(seed)))
		s := setUp()
		a := s.Array()
		a.Restart(slices.Repeat([]bool{true}, a.Unflushed()))
		s = start(t, a)
		may := map[string][][]uint64{}
		for i, n := range []string{"x", "m", "r"} {
			for at := range model.Sectors(s.Group(), n) {
				may[n] = append(may[n], []uint64{uint64(1000*i + 1 + at)})
			}
		}
		next := uint64(5000)
		for crash := range 6 {
			if crash < 5 {
				a.Fuse(1 + r.Intn(400))
			}
			for range 500 {
				l := Work(s)
				if len(l) == 0 || a.Down() {
					break
				}
				Step(s, l[r.Intn(len(l))], 1+r.Intn(2))
				for range 3 {
					n := []string{"x", "m", "r"}[r.Intn(3)]
					at := r.Intn(len(may[n]))
					next++
					if e := s.Write(n, at, next); e == api.OK || e == api.ErrPower {
						may[n][at] = append(may[n][at], next)
					} else {
						t.Fatalf("seed %d: Write: %d", seed, e)
					}
				}
			}
			a.Restart(keep(r, a.Unflushed()))
			s = start(t, a)
			for n, l := range may {
				for at := range l {
					v, e := s.Read(n, at)
					if e != api.OK || !slices.Contains(l[at], v) {
						t.Fatalf("seed %d: sector %d of %s is %d, %d, not one of %v", seed, at, n, v, e, l[at])
					}
					l[at] = []uint64{v}
				}
			}
		}
		finish(t, s)
		if got := plain(t, s.Group()); got != want {
			t.Fatalf("seed %d: another description:\n%s\nnot\n%s", seed, got, want)
		}
		x, _ := block.Span(a, 0, 8, 2100)
		if c, e := ring.Read(x); e != api.OK || c.Seq != s.Group().Seq {
			t.Fatal("the copies are those of the description")
		}
	}
}
