package activate

import (
	"math/rand"
	"slices"
	"strings"
	"testing"

	"volumegroup/api"
	"volumegroup/block"
	"volumegroup/cachemeta"
	"volumegroup/copies"
	"volumegroup/describe"
	"volumegroup/disk"
	"volumegroup/label"
	"volumegroup/model"
	"volumegroup/names"
	"volumegroup/parityvol"
	"volumegroup/plan"
	"volumegroup/regionlog"
	"volumegroup/ring"
	"volumegroup/thinmeta"
)

const group = 77

// started is a group on disks with 300 extents of 4 sectors and large areas, that is active.
func started(t *testing.T, disks int) *Stack {
	t.Helper()
	return startedWith(t, disks, 2100)
}

func startedWith(t *testing.T, disks, area int) *Stack {
	t.Helper()
	a, e := disk.New(slices.Repeat([]int{8 + area + 1200}, disks))
	if e != api.OK {
		t.Fatal(e)
	}
	if _, e := Init(a, "vg", group, 4, area); e != api.OK {
		t.Fatalf("Init: %d", e)
	}
	return start(t, a)
}

func start(t *testing.T, a *disk.Array) *Stack {
	t.Helper()
	s, e := Start(a, group)
	if e != api.OK {
		t.Fatalf("Start: %d", e)
	}
	return s
}

func is(t *testing.T, e, want api.Errno, what string) {
	t.Helper()
	if e != want {
		t.Errorf("%s: %d, not %d", what, e, want)
	}
}

// do plans a command, formats what it makes, and changes to it.
func do(t *testing.T, s *Stack, c api.Command) {
	t.Helper()
	if c.Policy == 0 {
		c.Policy = api.Normal
	}
	g, ahead, _, e := plan.Plan(s.Group(), c)
	if e != api.OK {
		t.Fatalf("command %d: %d", c.Kind, e)
	}
	raw := func(name string) block.Device {
		x, e := s.Raw(g, name)
		if e != api.OK {
			t.Fatalf("Raw of %s: %d", name, e)
		}
		return x
	}
	for _, a := range ahead {
		v, _ := model.Volume(g, a.Volume)
		switch a.Kind {
		case api.ActZero:
			e = block.WriteAll(raw(a.Volume), a.From, make([]uint64, a.Count))
		case api.ActLog:
			e = regionlog.Format(raw(a.Volume), a.Number)
		case api.ActParity:
			var l []block.Device
			for _, x := range v.Segments[0].Areas {
				l = append(l, raw(x.On))
			}
			e = parityvol.Format(l, v.Segments[0].Chunk)
		case api.ActPool:
			e = thinmeta.Format(raw(v.Segments[0].Areas[0].On), a.Number, a.Count)
		case api.ActCache:
			e = cachemeta.Format(raw(v.Segments[0].Areas[2].On), a.Number, a.Count)
		case api.ActThin:
			p, _ := s.Pool(a.Volume)
			p.Create(a.Number)
			e = p.Commit()
		}
		if e != api.OK {
			t.Fatalf("act %v: %d", a, e)
		}
	}
	if e := s.Change(g); e != api.OK {
		t.Fatalf("Change: %d", e)
	}
}

func write(t *testing.T, s *Stack, name string, at int, v uint64) {
	t.Helper()
	is(t, s.Write(name, at, v), api.OK, "Write to "+name)
}

func reads(t *testing.T, s *Stack, name string, at int, want uint64) {
	t.Helper()
	if v, e := s.Read(name, at); v != want || e != api.OK {
		t.Errorf("sector %d of %s is %d, %d, not %d", at, name, v, e, want)
	}
}

// zoo makes a volume of each kind.
func zoo(t *testing.T, s *Stack) {
	t.Helper()
	for _, c := range []api.Command{
		{Kind: api.CmdLinear, Volume: "lin", Extents: 3}, {Kind: api.CmdStriped, Volume: "str", Extents: 4, Parts: 2, Chunk: 2}, {Kind: api.CmdMirror, Volume: "mir", Extents: 2, Parts: 2, Chunk: 4, Number: 1}, {Kind: api.CmdParity, Volume: "par", Extents: 4, Parts: 3, Chunk: 4},
		{Kind: api.CmdPool, Volume: "pool", Extents: 4, Number: 210, Chunk: 2}, {Kind: api.CmdThin, Volume: "thin", Other: "pool", Extents: 3}, {Kind: api.CmdLinear, Volume: "cac", Extents: 4}, {Kind: api.CmdCache, Volume: "cac", Extents: 2, Chunk: 2, Mode: api.WriteBack}, {Kind: api.CmdLinear, Volume: "mov", Extents: 2}, {Kind: api.CmdMove, Volume: "mov"},
	} {
		do(t, s, c)
	}
}

// P36.1
func TestInit(t *testing.T) {
	a, _ := disk.New([]int{200, 208})
	g, e := Init(a, "vg", group, 4, 100)
	if e != api.OK || g.Seq != 1 || g.Next != 2 || g.Extent != 4 || len(g.Disks) != 2 || a.Unflushed() != 0 {
		t.Fatalf("Init: %v, %d", g, e)
	}
	for d, want := range []int{23, 25} {
		x := g.Disks[d]
		if x.Name != []string{"pv0", "pv1"}[d] || x.ID != names.Identity(group, d) || x.First != 108 || x.Extents != want {
			t.Errorf("disk %d: %v", d, x)
		}
		y, _ := block.Span(a, d, 0, a.Size(d))
		if l, e := label.Read(y); e != api.OK || l != (api.Label{ID: x.ID, Size: a.Size(d), Start: 8, Area: 100, Group: group}) {
			t.Errorf("label %d: %v", d, l)
		}
	}
	if !slices.Equal(Found(a, group), []int{0, 1}) || len(Found(a, 5)) != 0 {
		t.Error("Found")
	}
	a.SetMissing(0, true)
	if !slices.Equal(Found(a, group), []int{1}) {
		t.Error("Found with a missing disk")
	}
	big, _ := disk.New([]int{65536})
	if g, e := Init(big, "vg", group, 1, 100); e != api.OK || g.Disks[0].Extents != 4096 {
		t.Error("the greatest number of extents")
	}
	for i, c := range []struct {
		name         string
		extent, area int
		want         api.Errno
	}{{"vg_log", 0, 0, api.ErrName}, {"vg", 0, 0, api.ErrRange}, {"vg", 1025, 0, api.ErrRange}, {"vg", 4, 3, api.ErrSize}, {"vg", 4, 189, api.ErrSize}, {"vg", 4, 1 << 62, api.ErrSize}, {"vg", 4, 100, api.ErrMissing}} {
		if _, e := Init(a, c.name, 1, c.extent, c.area); e != c.want {
			t.Errorf("Init %d: %d", i, e)
		}
	}
}

// P36.2
func TestStart(t *testing.T) {
	s := started(t, 3)
	a := s.Array()
	if g := s.Group(); g.Seq != 2 || g.Disks[0].Missing || s.Array() != a {
		t.Error("the first activation")
	}
	if _, e := Start(a, 5); e != api.ErrNone {
		t.Error("another group")
	}
	do(t, s, api.Command{Kind: api.CmdMirror, Volume: "m", Extents: 2, Parts: 2, Chunk: 4})
	a.SetMissing(0, true)
	s = start(t, a)
	g := s.Group()
	if v, _ := model.Volume(g, "m"); !g.Disks[0].Missing || g.Disks[1].Missing || !slices.Equal(v.Segments[0].Stale, []int{0}) || g.Seq != 4 {
		t.Errorf("a missing disk: %v", g)
	}
	a.SetMissing(0, false)
	a.SetBad(0, 9, true) // the prepared word of the first disk
	s = start(t, a)
	if g := s.Group(); !g.Disks[0].Missing {
		t.Error("a disk whose area cannot be read is not present")
	}
	a.SetBad(0, 9, false)
	a.Write(1, 8, 1<<40|5) // a committed word that is not whole
	s = start(t, a)
	if g := s.Group(); g.Disks[0].Missing || g.Seq != 6 {
		t.Errorf("a damaged copy: %v", g.Seq)
	}
	for d := range 3 {
		x, _ := block.Span(a, d, 8, 2100)
		if c, e := ring.Read(x); e != api.OK || c.Seq != 6 {
			t.Errorf("the copy of disk %d: %v, %d", d, c.Seq, e)
		}
	}
	area := func(d int) block.Device {
		x, _ := block.Span(a, d, 8, 2100)
		return x
	}
	try := func(want api.Errno, f func()) {
		t.Helper()
		b := a
		a = a.Copy()
		f()
		if s, e := Start(a, group); s != nil || e != want {
			t.Errorf("Start: %d, not %d", e, want)
		}
		a = b
	}
	try(api.ErrDamage, func() {
		copies.Commit([]block.Device{area(0), area(1), area(2)}, 9, "no description")
	})
	other := s.Group()
	other.ID = 5
	text, _ := describe.Text(other)
	try(api.ErrDamage, func() { copies.Commit([]block.Device{area(0), area(1), area(2)}, 9, text) })
	try(api.ErrConflict, func() {
		copies.Commit([]block.Device{area(0)}, 9, text)
		copies.Commit([]block.Device{area(1)}, 9, text+"#")
	})
	try(api.ErrLimit, func() { copies.Commit([]block.Device{area(0)}, api.MaxSeq, text) })
	far := s.Group()
	far.Disks[0].ID, far.Disks[1].ID, far.Disks[2].ID = 1, 2, 3
	text, _ = describe.Text(far)
	try(api.ErrMissing, func() { copies.Commit([]block.Device{area(0), area(1), area(2)}, 9, text) })
	try(api.ErrPower, func() { a.Fuse(5) })
	try(api.ErrNone, func() {
		for d := range 3 {
			a.SetMissing(d, true)
		}
	})
	try(api.ErrNone, func() {
		for d := range 3 {
			ring.Format(area(d))
		}
	})
}

// P36.3, P36.4
func TestBuild(t *testing.T) {
	s := started(t, 4)
	zoo(t, s)
	for _, x := range s.Report() {
		if x.State != api.StateActive || x.Error != api.OK {
			t.Errorf("%v", x)
		}
	}
	g := s.Group()
	next := uint64(1)
	for _, v := range g.Volumes {
		if v.Hidden || v.Name == "pool" {
			continue
		}
		x, e := s.Device(v.Name)
		if e != api.OK || x.Size() != model.Sectors(g, v.Name) {
			t.Fatalf("%s: %d", v.Name, e)
		}
		for at := range x.Size() {
			write(t, s, v.Name, at, next)
			next++
		}
	}
	is(t, s.Sync(), api.OK, "Sync")
	b := Build(s.Array(), g)
	next = 1
	for _, v := range g.Volumes {
		if v.Hidden || v.Name == "pool" {
			continue
		}
		for at := range model.Sectors(g, v.Name) {
			reads(t, b, v.Name, at, next)
			next++
		}
	}
	if n, ok := s.Number("pv2"); n != 2 || !ok {
		t.Error("Number")
	}
	if _, ok := s.Number("pv9"); ok {
		t.Error("Number of no disk")
	}
	for i, f := range []func(name string) api.Errno{
		func(n string) api.Errno { _, e := s.Pool(n); return e }, func(n string) api.Errno { _, e := s.Mirror(n); return e }, func(n string) api.Errno { _, e := s.Parity(n); return e }, func(n string) api.Errno { _, e := s.Cache(n); return e }, func(n string) api.Errno { _, e := s.Mover(n, 0); return e },
	} {
		is(t, f("zz"), api.ErrNone, "no volume")
		is(t, f("lin"), api.ErrKind, "another kind")
		is(t, f([]string{"pool", "mir", "par", "cac", "mov"}[i]), api.OK, "an object")
	}
	if _, e := s.Mover("mov", 1); e != api.ErrRange {
		t.Error("Mover of no segment")
	}
	if _, e := s.Device("zz"); e != api.ErrNone {
		t.Error("Device of no volume")
	}
	if _, e := s.Device("pool"); e != api.ErrKind {
		t.Error("Device of a pool")
	}
	if x, e := s.Device("mir_leg0"); e != api.OK || x.Size() != 8 {
		t.Error("Device of a hidden volume")
	}
	do(t, s, api.Command{Kind: api.CmdReadOnly, Volume: "lin", Number: 1})
	is(t, s.Write("lin", 0, 1), api.ErrReadOnly, "a volume that is read only")
	reads(t, s, "lin", 0, 1)
	g.Name = ""
	for _, x := range Build(s.Array(), g).Report() {
		if x.State != api.StatePartial || x.Error != api.ErrForm {
			t.Errorf("a description that is not valid: %v", x)
		}
	}
}

func TestMissingDisks(t *testing.T) {
	s := started(t, 4)
	zoo(t, s)
	write(t, s, "mir", 3, 5)
	write(t, s, "par", 7, 6)
	is(t, s.Sync(), api.OK, "Sync")
	a := s.Array()
	a.SetMissing(0, true)
	s = start(t, a)
	states := map[string]api.State{}
	for _, x := range s.Report() {
		states[x.Name] = x
	}
	for name, want := range map[string]int{"lin": api.StatePartial, "mir": api.StateDegraded, "par": api.StateDegraded, "mir_leg0": api.StatePartial, "mir_leg1": api.StateActive} {
		if x := states[name]; x.State != want || (x.Error == api.ErrMissing) != (want == api.StatePartial) {
			t.Errorf("%v", x)
		}
	}
	reads(t, s, "mir", 3, 5)
	reads(t, s, "par", 7, 6)
	if _, e := s.Read("lin", 0); e != api.ErrMissing {
		t.Errorf("a partial volume: %d", e)
	}
	if _, e := s.Device("lin"); e != api.ErrMissing {
		t.Error("the device of a partial volume")
	}
	if _, ok := s.Number("pv0"); ok {
		t.Error("the number of a missing disk")
	}
	write(t, s, "mir", 3, 8)
	is(t, s.Sync(), api.OK, "Sync")
	a.SetMissing(0, false)
	s = start(t, a)
	reads(t, s, "mir", 3, 8)
	if m, _ := s.Mirror("mir"); !slices.Equal(m.Stale(), []int{0}) && !slices.Equal(m.Stale(), []int{0, 2}) {
		t.Errorf("a disk that is back: stale %v", m.Stale())
	}
}

func TestRaw(t *testing.T) {
	s := started(t, 3)
	do(t, s, api.Command{Kind: api.CmdLinear, Volume: "x", Extents: 2})
	g, _, _, _ := plan.Plan(s.Group(), api.Command{Kind: api.CmdLinear, Volume: "y", Extents: 3, Policy: api.Normal})
	x, e := s.Raw(g, "y")
	if e != api.OK || x.Size() != 12 {
		t.Fatal("Raw of a volume that is planned")
	}
	x.Write(0, 7)
	if v, _ := s.Array().Read(0, 2108+8); v != 7 {
		t.Error("the place of a raw device")
	}
	for i := range g.Volumes {
		g.Volumes[i].ReadOnly = true
	}
	if x, _ := s.Raw(g, "y"); x.Write(0, 1) != api.OK {
		t.Error("ReadOnly aside")
	}
	if _, e := s.Raw(g, "zz"); e != api.ErrNone {
		t.Error("no volume")
	}
	g.Volumes[1].Segments[0].Areas[0].Start = 9999
	if _, e := s.Raw(g, "y"); e != api.ErrRange {
		t.Error("an area that is not on the disk")
	}
	g.Volumes[1].Segments[0].Areas[0].On = "zz"
	if _, e := s.Raw(g, "y"); e != api.ErrMissing {
		t.Error("a disk that does not exist")
	}
	g.Volumes[1].Segments[0].Kind = api.SegMove
	if _, e := s.Raw(g, "y"); e != api.ErrKind {
		t.Error("a volume that is not simple")
	}
	for _, v := range []api.Volume{{Name: "w", Segments: []api.Segment{{Kind: api.SegStriped, Length: 4}}}, {Name: "w", Segments: []api.Segment{{Kind: api.SegLinear, Length: -4, Areas: []api.Area{{On: "pv0"}}}}}, {Name: "w", Segments: []api.Segment{{Kind: api.SegLinear, Length: 4}}}} {
		if _, e := s.Raw(api.Group{Extent: 4, Disks: s.Group().Disks, Volumes: []api.Volume{v}}, "w"); e != api.ErrRange {
			t.Errorf("Raw of %v: %d", v, e)
		}
	}
}

// P36.5
func TestRequests(t *testing.T) {
	s := started(t, 4)
	zoo(t, s)
	for i, c := range []struct {
		name string
		at   int
		want api.Errno
	}{{"zz", 0, api.ErrNone}, {"mir_leg0", 0, api.ErrKind}, {"pool", 0, api.ErrKind}, {"lin", 12, api.ErrRange}, {"lin", -1, api.ErrRange}, {"lin", 11, api.OK}} {
		_, e := s.Read(c.name, c.at)
		if e != c.want || s.Write(c.name, c.at, 1) != c.want {
			t.Errorf("request %d: %d", i, e)
		}
	}
	is(t, s.Flush("zz"), api.ErrNone, "Flush")
	is(t, s.Flush("pool"), api.ErrKind, "Flush")
	write(t, s, "mir", 2, 9)
	seq := s.Group().Seq
	s.Array().SetMissing(1, true)
	reads(t, s, "mir", 2, 9)
	write(t, s, "mir", 2, 10)
	reads(t, s, "mir", 2, 10)
	write(t, s, "par", 0, 11)
	write(t, s, "par", 9, 12)
	reads(t, s, "par", 9, 12)
	g := s.Group()
	if v, _ := model.Volume(g, "mir"); g.Seq == seq || len(v.Segments[0].Stale) == 0 || !g.Disks[1].Missing {
		t.Error("a failed leg is stale")
	}
	s.Array().Fuse(1)
	is(t, s.Write("lin", 0, 1), api.ErrPower, "the power")
	if _, e := s.Read("zz", 0); e != api.ErrNone {
		t.Error("ErrNone ahead of ErrPower")
	}
	if _, e := s.Read("lin", 0); e != api.ErrPower {
		t.Error("the power")
	}
	is(t, s.Sync(), api.ErrPower, "Sync")
}

// P36.6
func TestRecord(t *testing.T) {
	s := started(t, 3)
	a := s.Array()
	g := s.Group()
	g.Tags = []string{"new"}
	g.Seq = 0
	is(t, s.Record(g), api.OK, "Record")
	if got := s.Group(); got.Seq != 3 || !slices.Equal(got.Tags, []string{"new"}) {
		t.Errorf("behind Record: %v", got)
	}
	g.Name = "-"
	is(t, s.Record(g), api.ErrName, "a description that is not valid")
	g = s.Group()
	for i := range g.Disks {
		g.Disks[i].Missing = true
	}
	is(t, s.Record(g), api.ErrMissing, "no disks")
	// A disk fails: it is not present any more.
	a.SetMissing(1, true)
	g = s.Group()
	g.Tags = []string{"newer"}
	is(t, s.Record(g), api.OK, "Record without a disk")
	if got := s.Group(); !got.Disks[1].Missing || got.Disks[0].Missing || !slices.Equal(got.Tags, []string{"newer"}) {
		t.Errorf("behind Record: %v", got)
	}
	if _, ok := s.Number("pv1"); ok {
		t.Error("a disk that is gone")
	}
	// It comes back: its volumes can be opened again, but no commit is on it until the next Start.
	a.SetMissing(1, false)
	is(t, s.Change(s.Group()), api.OK, "Change")
	if n, ok := s.Number("pv1"); n != 1 || !ok {
		t.Error("a disk that has come back")
	}
	g = s.Group()
	g.Disks[1].Missing = false
	is(t, s.Record(g), api.OK, "Record")
	y, _ := block.Span(a, 1, 8, 2100)
	if c, e := ring.Read(y); e != api.OK || c.Seq >= s.Group().Seq-2 {
		t.Errorf("a commit on a disk that was gone: %d of %d", c.Seq, s.Group().Seq)
	}
	if _, ok := s.Number("pv1"); !ok {
		t.Error("Record leaves the devices as they are")
	}
	s = start(t, a)
	if g := s.Group(); g.Disks[1].Missing || !slices.Equal(g.Tags, []string{"newer"}) {
		t.Error("the next Start")
	}
	a.Fuse(3)
	is(t, s.Record(s.Group()), api.ErrPower, "the power")
}

// P36.6: what was recorded, and has not been opened, cannot be asked for anything.
func TestRecorded(t *testing.T) {
	s := started(t, 3)
	do(t, s, api.Command{Kind: api.CmdLinear, Volume: "old", Extents: 2})
	g := s.Group()
	for _, c := range []api.Command{{Kind: api.CmdLinear, Volume: "lin", Extents: 3}, {Kind: api.CmdMirror, Volume: "mir", Extents: 2, Parts: 2, Chunk: 4}, {Kind: api.CmdParity, Volume: "par", Extents: 4, Parts: 3, Chunk: 4}, {Kind: api.CmdPool, Volume: "pool", Extents: 4, Number: 210, Chunk: 2}, {Kind: api.CmdCache, Volume: "lin", Extents: 2, Chunk: 2, Mode: api.WriteBack}, {Kind: api.CmdMove, Volume: "old"}} {
		c.Policy = api.Normal
		var e api.Errno
		g, _, _, e = plan.Plan(g, c)
		is(t, e, api.OK, "Plan")
	}
	is(t, s.Record(g), api.OK, "Record")
	for _, name := range []string{"lin", "mir", "par"} {
		if x, e := s.Device(name); x != nil || e != api.ErrNone {
			t.Errorf("Device of %s: %d", name, e)
		}
		_, e := s.Read(name, 0)
		is(t, e, api.ErrNone, "Read of "+name)
		is(t, s.Write(name, 0, 1), api.ErrNone, "Write to "+name)
		is(t, s.Flush(name), api.ErrNone, "Flush of "+name)
	}
	p, e := s.Pool("pool")
	m, e1 := s.Mirror("mir")
	r, e2 := s.Parity("par")
	c, e3 := s.Cache("lin")
	v, e4 := s.Mover("old", 0)
	if p != nil || m != nil || r != nil || c != nil || v != nil {
		t.Error("objects that were not opened")
	}
	for _, e := range []api.Errno{e, e1, e2, e3, e4} {
		is(t, e, api.ErrKind, "an object that was not opened")
	}
	write(t, s, "old", 0, 5)
	is(t, s.Sync(), api.OK, "Sync")
	is(t, s.Change(s.Group()), api.OK, "Change")
	reads(t, s, "mir", 0, 0)
	reads(t, s, "old", 0, 5)
}

func TestBroken(t *testing.T) {
	s := startedWith(t, 2, 800)
	do(t, s, api.Command{Kind: api.CmdLinear, Volume: "x", Extents: 2})
	// The text does not fit twice: an error of Prepare leaves the stack as it is.
	g := s.Group()
	for i := range 25 {
		g.Volumes = append(g.Volumes, api.Volume{Name: strings.Repeat("v", 20) + string(rune('a'+i)), ID: uint64(1000 + i), Tags: []string{strings.Repeat("t", 24), strings.Repeat("u", 24), strings.Repeat("w", 24)}, Segments: []api.Segment{{Length: 1, Kind: api.SegZero}, {Start: 1, Length: 1, Kind: api.SegZero}}})
	}
	if text, e := describe.Text(g); e != api.OK || len(text)/8 < 400 {
		t.Fatalf("the text has %d bytes, %d", len(text), e)
	}
	e := s.Record(g)
	for range 3 {
		if e == api.OK {
			e = s.Record(g)
		}
	}
	is(t, e, api.ErrSpace, "an error that tells no disk")
	write(t, s, "x", 0, 1)
	// An error of Switch without a disk that cannot be read breaks it: the prepared word is damaged by a raw write.
	s.broken = true
	for i, e := range []api.Errno{s.Write("x", 0, 1), s.Flush("x"), s.Sync(), s.Record(g), s.Change(g)} {
		is(t, e, api.ErrState, "function "+string(rune('0'+i))+" of a broken stack")
	}
	if _, e := s.Read("x", 0); e != api.ErrState {
		t.Error("Read of a broken stack")
	}
	if ok, e := s.Settle(api.ErrLeg); ok || e != api.ErrState {
		t.Error("Settle of a broken stack")
	}
}

// P36.7
func TestChange(t *testing.T) {
	s := started(t, 3)
	zoo(t, s)
	write(t, s, "cac", 0, 1)
	write(t, s, "cac", 0, 2)
	write(t, s, "lin", 0, 3)
	g := s.Group()
	g.Tags = []string{"t"}
	is(t, s.Change(g), api.OK, "Change")
	reads(t, s, "cac", 0, 2)
	reads(t, s, "lin", 0, 3)
	if c, _ := s.Cache("cac"); !c.State().Slots[0].Valid {
		t.Error("caches are closed ahead of being opened anew")
	}
	is(t, s.Change(g), api.ErrConflict, "a description that was planned earlier")
	g = s.Group()
	g.Name = ""
	is(t, s.Change(g), api.ErrName, "the error of Record")
	// A leg that fails in Sync makes the description another one.
	s = started(t, 3)
	do(t, s, api.Command{Kind: api.CmdMirror, Volume: "mir", Extents: 2, Parts: 2, Chunk: 4})
	g = s.Group()
	write(t, s, "mir", 0, 1)
	s.Array().SetMissing(1, true)
	is(t, s.Change(g), api.ErrConflict, "a leg was made stale")
	s.Array().Fuse(2)
	is(t, s.Change(s.Group()), api.ErrPower, "the power")
}

// P36.7: legs on a disk that does not tell any more that it is one of the group are stale when the devices are opened anew.
func TestChangeWithoutDisk(t *testing.T) {
	s := started(t, 3)
	a := s.Array()
	for _, c := range []api.Command{{Kind: api.CmdMirror, Volume: "mir", Extents: 2, Parts: 2, Chunk: 4, Number: 1}, {Kind: api.CmdParity, Volume: "par", Extents: 4, Parts: 3, Chunk: 4}} {
		do(t, s, c)
		write(t, s, c.Volume, 1, 5)
	}
	a.SetBad(1, 0, true)
	g := s.Group()
	g.Tags = []string{"t"}
	is(t, s.Change(g), api.OK, "Change")
	for _, name := range []string{"mir", "par"} {
		if v, _ := model.Volume(s.Group(), name); !slices.Equal(v.Segments[0].Stale, []int{1}) {
			t.Errorf("stale legs of %s: %v", name, v.Segments[0].Stale)
		}
		reads(t, s, name, 1, 5)
	}
	if g := s.Group(); g.Disks[1].Missing || !slices.Equal(g.Tags, []string{"t"}) {
		t.Errorf("the description: %v", g)
	}
	// A description that is not valid is not made valid by it.
	g = s.Group()
	g.Volumes[0].Segments[0].Stale = []int{1, 1}
	is(t, s.Change(g), api.ErrForm, "stale legs that do not ascend")
	// No good leg is left: the description stays, and the volume cannot be opened.
	a.SetBad(0, 0, true)
	is(t, s.Change(s.Group()), api.OK, "Change")
	if _, e := s.Read("mir", 1); e != api.ErrMissing {
		t.Errorf("no legs: %d", e)
	}
	a.SetBad(0, 0, false)
	a.SetBad(1, 0, false)
	s = start(t, a)
	reads(t, s, "mir", 1, 5)
	reads(t, s, "par", 1, 5)
}

// P36.8
func TestSettle(t *testing.T) {
	s := started(t, 4)
	zoo(t, s)
	for _, e := range []api.Errno{api.OK, api.ErrBad} {
		if ok, got := s.Settle(e); ok || got != e {
			t.Errorf("Settle(%d): %v, %d", e, ok, got)
		}
	}
	if ok, e := s.Settle(api.ErrLeg); ok || e != api.ErrLeg {
		t.Error("no leg has failed")
	}
	m, _ := s.Mirror("mir")
	p, _ := s.Parity("par")
	s.Array().SetMissing(0, true)
	m.Write(0, 1)
	p.Flush()
	if len(m.Failed()) != 1 || len(p.Failed()) != 1 {
		t.Fatalf("failed %v, %v", m.Failed(), p.Failed())
	}
	if ok, e := s.Settle(api.ErrLeg); !ok || e != api.OK || len(m.Failed())+len(p.Failed()) > 0 {
		t.Errorf("Settle: %v, %d", ok, e)
	}
	g := s.Group()
	for _, name := range []string{"mir", "par"} {
		if v, _ := model.Volume(g, name); len(v.Segments[0].Stale) == 0 {
			t.Errorf("%s has no stale leg", name)
		}
	}
	s.Array().SetMissing(1, true)
	m.Write(0, 2)
	p.Flush()
	if ok, e := s.Settle(api.ErrLeg); ok || e != api.ErrStale {
		t.Errorf("Settle that is refused: %v, %d", ok, e)
	}
}

// P36.9
func TestPowerFailures(t *testing.T) {
	for seed := range 120 {
		r := rand.New(rand.NewSource(int64(seed)))
		s := started(t, 3)
		zoo(t, s)
		a := s.Array()
		vols := []string{"lin", "str", "mir", "par", "thin", "cac", "mov"}
		may := map[string][][]uint64{}
		for _, n := range vols {
			for range model.Sectors(s.Group(), n) {
				may[n] = append(may[n], []uint64{0})
			}
		}
		tags := []string{""}
		next := uint64(1)
		for round := range 3 {
			a.Fuse(1 + r.Intn(300))
			for range 40 {
				if a.Down() {
					break
				}
				n := vols[r.Intn(len(vols))]
				at := r.Intn(len(may[n]))
				switch r.Intn(12) {
				case 0:
					if s.Flush(n) == api.OK {
						for i, l := range may[n] {
							may[n][i] = l[len(l)-1:]
						}
					}
				case 1:
					g := s.Group()
					tag := "t" + string(rune('a'+r.Intn(26)))
					g.Tags = []string{tag}
					tags = append(tags, tag)
					f := []func(api.Group) api.Errno{s.Record, s.Change}[r.Intn(2)]
					if f(g) == api.OK {
						tags = tags[len(tags)-1:]
					}
				case 2, 3, 4:
					if v, e := s.Read(n, at); e == api.OK && v != may[n][at][len(may[n][at])-1] {
						t.Fatalf("seed %d: sector %d of %s is %d, not %v", seed, at, n, v, may[n][at])
					}
				default:
					next++
					if e := s.Write(n, at, next); e == api.OK || e == api.ErrPower {
						may[n][at] = append(may[n][at], next)
					} else {
						t.Fatalf("seed %d: Write to %s: %d", seed, n, e)
					}
				}
			}
			for range 2 {
				keep := make([]bool, a.Unflushed())
				for i := range keep {
					keep[i] = r.Intn(2) == 0
				}
				a.Restart(keep)
				if r.Intn(3) == 0 {
					a.Fuse(1 + r.Intn(60))
				}
				var e api.Errno
				s, e = Start(a, group)
				if e == api.ErrPower {
					a.Restart(nil)
					s, e = Start(a, group)
				}
				a.Fuse(0)
				if e != api.OK {
					t.Fatalf("seed %d: Start: %d", seed, e)
				}
				tag := strings.Join(s.Group().Tags, "")
				if !slices.Contains(tags, tag) {
					t.Fatalf("seed %d, round %d: the description has %q, not one of %v", seed, round, tag, tags)
				}
				tags = []string{tag}
				for _, n := range vols {
					for at, l := range may[n] {
						v, e := s.Read(n, at)
						if e != api.OK || !slices.Contains(l, v) {
							t.Fatalf("seed %d: sector %d of %s is %d, %d, not one of %v", seed, at, n, v, e, l)
						}
						may[n][at] = []uint64{v}
					}
				}
			}
		}
	}
}
