package system

import (
	"slices"
	"strconv"
	"testing"

	"volumegroup/api"
	"volumegroup/model"
)

func linear(name string, n int) api.Do {
	return api.Do{Kind: api.DoCommand, Command: api.Command{Kind: api.CmdLinear, Volume: name, Extents: n, Policy: api.Normal}}
}

// P40.1
func TestNewRun(t *testing.T) {
	if _, e := New(make([]int, 9)); e != api.ErrLimit {
		t.Error("too many disks")
	}
	if _, e := New([]int{0}); e != api.ErrRange {
		t.Error("a disk without sectors")
	}
	s, e := New([]int{200, 200})
	if e != api.OK || s.Array().Count() != 2 || len(s.Archive()) != 0 || len(s.Images()) != 2 || len(s.Images()[0]) != 200 {
		t.Error("New")
	}
	if g, ok := s.Group(); ok || g.Name != "" {
		t.Error("a new system is not active")
	}
	if _, e := Run([]int{0}, make([]api.Do, api.MaxSteps+1)); e != api.ErrLimit {
		t.Error("too many steps")
	}
	if _, e := Run([]int{0}, nil); e != api.ErrRange {
		t.Error("the error of New")
	}
	l, e := Run([]int{400, 400}, []api.Do{
		{Kind: api.DoInit, Name: "vg", Value: 9, At: 4, Number: 200}, {Kind: api.DoStart}, linear("x", 2), {Kind: api.DoWrite, Name: "x", At: 3, Value: 55}, {Kind: api.DoFlush, Name: "x"}, {Kind: api.DoRestart}, {Kind: api.DoStart}, {Kind: api.DoRead, Name: "x", At: 3},
	})
	if e != api.OK || len(l) != 8 || l[7].Value != 55 {
		t.Errorf("the example: %v, %d", l, e)
	}
	for i, x := range l {
		if x.Error != api.OK {
			t.Errorf("step %d: %d", i, x.Error)
		}
	}
}

// P40.2
func TestSteps(t *testing.T) {
	s, _ := New([]int{3000, 3000, 3000})
	expect := func(d api.Do, e api.Errno) api.Done {
		t.Helper()
		x := s.Do(d)
		if x.Error != e {
			t.Errorf("step %d: %d, not %d", d.Kind, x.Error, e)
		}
		return x
	}
	for kind := -1; kind < 25; kind++ {
		want := api.ErrState
		switch kind {
		case api.DoInit:
			want = api.ErrName
		case api.DoStart:
			want = api.ErrNone
		case api.DoFuse, api.DoRestart:
			want = api.OK
		case api.DoMissing, api.DoBad:
			want = api.ErrRange
		}
		if kind < 1 || kind > api.DoReport {
			want = api.ErrKind
		}
		expect(api.Do{Kind: kind, At: 99, Number: 9}, want)
	}
	expect(api.Do{Kind: api.DoInit, Name: "vg", Value: 9, At: 4, Number: 2100}, api.OK)
	expect(api.Do{Kind: api.DoStart}, api.OK)
	expect(api.Do{Kind: api.DoStart}, api.ErrState)
	expect(api.Do{Kind: api.DoInit, Name: "", Value: 8}, api.ErrState)
	expect(api.Do{Kind: 20}, api.ErrKind)
	expect(linear("x", 2), api.OK)
	expect(linear("x", 2), api.ErrTwice)
	expect(api.Do{Kind: api.DoWrite, Name: "x", At: 3, Value: 5}, api.OK)
	if x := expect(api.Do{Kind: api.DoRead, Name: "x", At: 3}, api.OK); x.Value != 5 {
		t.Error("DoRead")
	}
	expect(api.Do{Kind: api.DoRead, Name: "x", At: 8}, api.ErrRange)
	expect(api.Do{Kind: api.DoFlush}, api.OK)
	expect(api.Do{Kind: api.DoFlush, Name: "zz"}, api.ErrNone)
	expect(api.Do{Kind: api.DoKeep}, api.OK)
	expect(api.Do{Kind: api.DoKeep}, api.ErrTwice)
	kept := s.Archive()[0].Seq
	do := func(c api.Command) {
		t.Helper()
		c.Policy = api.Normal
		expect(api.Do{Kind: api.DoCommand, Command: c}, api.OK)
	}
	do(api.Command{Kind: api.CmdMove, Volume: "x"})
	if x := expect(api.Do{Kind: api.DoReport}, api.OK); x.Count != 1 || len(x.States) != 1 || x.States[0] != (api.State{Name: "x", State: api.StateActive}) {
		t.Errorf("DoReport: %v", x)
	}
	expect(api.Do{Kind: api.DoWork, At: 1, Number: 1}, api.ErrNone)
	expect(api.Do{Kind: api.DoWork, At: -1, Number: 1}, api.ErrNone)
	expect(api.Do{Kind: api.DoWork, Number: 0}, api.ErrRange)
	if x := expect(api.Do{Kind: api.DoWork, Number: 1}, api.OK); x.Count != 0 {
		t.Error("DoWork")
	}
	if x := expect(api.Do{Kind: api.DoWork, Number: 1}, api.OK); x.Count != 1 {
		t.Error("DoWork at its end")
	}
	expect(api.Do{Kind: api.DoRestore, Number: 999}, api.ErrNone)
	expect(api.Do{Kind: api.DoRestore, Number: kept}, api.OK)
	do(api.Command{Kind: api.CmdCache, Volume: "x", Extents: 1, Chunk: 2, Mode: api.WriteBack})
	for range 2 {
		expect(api.Do{Kind: api.DoWrite, Name: "x", At: 0, Value: 7}, api.OK)
		expect(api.Do{Kind: api.DoWrite, Name: "x", At: 2, Value: 7}, api.OK)
	}
	expect(api.Do{Kind: api.DoClean, Name: "zz"}, api.ErrNone)
	expect(api.Do{Kind: api.DoClean, Name: "x", Number: -1}, api.ErrRange)
	if x := expect(api.Do{Kind: api.DoClean, Name: "x", Number: 1}, api.OK); x.Count != 1 {
		t.Error("DoClean")
	}
	do(api.Command{Kind: api.CmdPool, Volume: "p", Extents: 6, Number: 210, Chunk: 3})
	do(api.Command{Kind: api.CmdThin, Volume: "t", Other: "p", Extents: 2})
	expect(api.Do{Kind: api.DoWrite, Name: "t", At: 1, Value: 7}, api.OK)
	for _, c := range []struct {
		name string
		at   int
		want api.Errno
	}{{"zz", 0, api.ErrNone}, {"x", 0, api.ErrKind}, {"p", 0, api.ErrKind}, {"t", -1, api.ErrRange}, {"t", 2, api.ErrRange}, {"t", 1, api.OK}, {"t", 0, api.OK}} {
		expect(api.Do{Kind: api.DoDiscard, Name: c.name, At: c.at}, c.want)
	}
	if x := expect(api.Do{Kind: api.DoRead, Name: "t", At: 1}, api.OK); x.Value != 0 {
		t.Error("DoDiscard")
	}
	if x := expect(api.Do{Kind: api.DoCheck}, api.OK); x.Count != 0 || len(x.Violations) != 0 {
		t.Errorf("DoCheck: %v", x)
	}
	expect(linear("spare", 220), api.OK)
	expect(api.Do{Kind: api.DoMend, Name: "x", Other: "spare"}, api.ErrKind)
	if x := expect(api.Do{Kind: api.DoMend, Name: "p", Other: "spare"}, api.OK); x.Count != 0 {
		t.Error("DoMend")
	}
	expect(api.Do{Kind: api.DoBad, Number: 0, At: 2999, Flag: true}, api.OK)
	expect(api.Do{Kind: api.DoBad, Number: 0, At: 2999}, api.OK)
	expect(api.Do{Kind: api.DoMissing, At: 2, Flag: true}, api.OK)
	if !s.Array().Missing(2) {
		t.Error("DoMissing")
	}
	expect(api.Do{Kind: api.DoMissing, At: 2}, api.OK)
	if g, ok := s.Group(); !ok || len(g.Volumes) < 5 {
		t.Error("Group")
	}
	expect(api.Do{Kind: api.DoStop}, api.OK)
	if _, ok := s.Group(); ok {
		t.Error("DoStop")
	}
	expect(api.Do{Kind: api.DoStop}, api.ErrState)
	expect(api.Do{Kind: api.DoStart}, api.OK)
	if x := expect(api.Do{Kind: api.DoRead, Name: "x", At: 2}, api.OK); x.Value != 7 {
		t.Error("the cache behind DoStop")
	}
	expect(api.Do{Kind: api.DoFuse, Number: 1}, api.OK)
	expect(api.Do{Kind: api.DoStop}, api.ErrPower)
	expect(api.Do{Kind: api.DoRestart}, api.OK)
	expect(api.Do{Kind: api.DoReport}, api.ErrState)
	expect(api.Do{Kind: api.DoInit, Name: "", Value: 1}, api.ErrName)
	expect(api.Do{Kind: api.DoStart}, api.ErrNone)
}

// P40.3
func TestLooks(t *testing.T) {
	s, _ := New([]int{400, 400})
	s.Do(api.Do{Kind: api.DoInit, Name: "vg", Value: 9, At: 4, Number: 200})
	s.Do(api.Do{Kind: api.DoStart})
	s.Do(api.Do{Kind: api.DoKeep})
	s.Images()[0][0] = 77
	l := s.Archive()
	l[0].Seq = 999
	if w, _ := s.Array().Read(0, 0); w == 77 || s.Images()[0][0] != w || s.Archive()[0].Seq != 2 {
		t.Error("results share memory")
	}
	g, ok := s.Group()
	g.Disks[0].Name = "zz"
	if x, _ := s.Group(); !ok || x.Disks[0].Name != "pv0" {
		t.Error("Group shares memory")
	}
}

// P40.4: T1, T3, T4, T5, T9
func TestCommandsAndPowerFailures(t *testing.T) {
	for seed := range 40 {
		h := newHarness(t, seed, 4)
		for range 5 {
			h.must(api.Do{Kind: api.DoFuse, Number: 1 + h.r.Intn(500)})
			for range 60 {
				if h.s.Array().Down() {
					break
				}
				switch k := h.r.Intn(20); {
				case k < 4:
					h.command(h.anyCommand())
				case k < 6:
					h.work()
				case k == 6:
					h.checked(5)
				case k == 7:
					if l := h.names(); len(l) > 0 {
						h.do(api.Do{Kind: api.DoClean, Name: l[h.r.Intn(len(l))], Number: h.r.Intn(3)})
					}
				case k == 8 && h.r.Intn(4) == 0:
					h.stopStart()
				case k == 9:
					h.discard()
				default:
					h.request()
				}
			}
			h.restart()
			h.settle()
			h.checked()
		}
		h.must(api.Do{Kind: api.DoFuse})
		if !h.allWork() {
			h.fatal("work without end")
		}
		h.settle()
		h.checked()
	}
}

func (h *harness) stopStart() {
	if x := h.do(api.Do{Kind: api.DoStop}); x.Error != api.OK {
		if x.Error != api.ErrPower {
			h.fatal("DoStop", x.Error)
		}
		return
	}
	h.flushed(slices.Sorted(func(yield func(string) bool) {
		for n := range h.may {
			if !yield(n) {
				return
			}
		}
	})...)
	if x := h.do(api.Do{Kind: api.DoStart}); x.Error == api.ErrPower {
		h.restart()
		h.settle()
	} else if x.Error != api.OK {
		h.fatal("DoStart", x.Error)
	}
}

func (h *harness) discard() {
	for _, n := range h.names() {
		v, _ := model.Volume(h.group(), n)
		if model.Kind(v) != api.SegThin {
			continue
		}
		p, _ := model.Volume(h.group(), v.Segments[0].Pool)
		chunk := p.Segments[0].Chunk
		b := h.r.Intn(len(h.may[n])/chunk + 1)
		x := h.do(api.Do{Kind: api.DoDiscard, Name: n, At: b})
		if x.Error == api.OK || x.Error == api.ErrPower {
			for at := b * chunk; at < (b+1)*chunk && at < len(h.may[n]); at++ {
				h.may[n][at] = append(h.may[n][at], 0)
			}
		}
		return
	}
}

// P40.4: T2
func TestMissingDisks(t *testing.T) {
	for seed := range 40 {
		h := newHarness(t, seed, 5)
		for i, c := range []api.Command{{Kind: api.CmdMirror, Extents: 2, Parts: 2, Chunk: 4, Number: 1}, {Kind: api.CmdMirror, Extents: 1, Parts: 3, Chunk: 2}, {Kind: api.CmdParity, Extents: 4, Parts: 3, Chunk: 4}, {Kind: api.CmdParity, Extents: 3, Parts: 4, Chunk: 2}} {
			c.Volume, c.Policy = "v"+strconv.Itoa(i), api.Normal
			h.command(c)
		}
		missing, replaced := -1, false
		for range 6 {
			if h.r.Intn(3) > 0 {
				h.must(api.Do{Kind: api.DoFuse, Number: 1 + h.r.Intn(600)})
			}
			for range 50 {
				if h.s.Array().Down() {
					break
				}
				switch k := h.r.Intn(30); {
				case k == 0 && missing < 0 && !replaced:
					missing = h.r.Intn(5)
					h.must(api.Do{Kind: api.DoMissing, At: missing, Flag: true})
				case k == 1:
					h.checked(5, 7, 9)
				case k < 6:
					h.work()
				case k == 6:
					c := api.Command{Kind: api.CmdTag + h.r.Intn(2), Volume: "v" + strconv.Itoa(h.r.Intn(4)), Tag: "t"}
					h.mark(c)
				case k == 8:
					replaced = true // a stale leg more: no disk may be lost before it is filled
					h.mark(api.Command{Kind: api.CmdLegNew, Volume: "v" + strconv.Itoa(h.r.Intn(4)), Number: h.r.Intn(4), Policy: api.Normal})
				case k == 7 && missing >= 0:
					h.comesBack(missing)
				case k == 9 && missing >= 0 && !replaced: // it goes again
					h.must(api.Do{Kind: api.DoMissing, At: missing, Flag: true})
				default:
					h.request()
				}
			}
			if h.r.Intn(3) == 0 && missing < 0 && !replaced {
				missing = h.r.Intn(5)
				h.must(api.Do{Kind: api.DoMissing, At: missing, Flag: true})
			}
			h.restart()
			h.settle()
			if h.r.Intn(2) == 0 {
				continue
			}
			// The disk comes back as it was when it went; its legs are filled again.
			if missing >= 0 {
				h.must(api.Do{Kind: api.DoMissing, At: missing})
				h.restart()
				h.settle()
			}
			if !h.allWork() {
				h.fatal("work without end")
			}
			for _, x := range h.must(api.Do{Kind: api.DoReport}).States {
				if x.State != api.StateActive {
					h.fatal("behind all work", x)
				}
			}
			h.checked()
			missing, replaced = -1, false
		}
	}
}

// comesBack lets a disk come back; its legs may be filled, but no commit is on it until the next activation.
func (h *harness) comesBack(disk int) {
	h.must(api.Do{Kind: api.DoMissing, At: disk})
	for range h.r.Intn(2) * 60 {
		if !h.s.Array().Down() {
			h.work()
		}
	}
}

// P40.2: legs to be filled are pieces of work, also while their disk is away.
func TestReportOfWork(t *testing.T) {
	s, e := New([]int{700, 700})
	if e != api.OK {
		t.Fatal(e)
	}
	step := func(d api.Do, want api.Done) {
		t.Helper()
		if x := s.Do(d); x.Error != want.Error || x.Count != want.Count || x.Value != want.Value {
			t.Errorf("step %d: %v, not %v", d.Kind, x, want)
		}
	}
	step(api.Do{Kind: api.DoInit, Name: "vg", Value: 5, At: 4, Number: 500}, api.Done{})
	step(api.Do{Kind: api.DoStart}, api.Done{})
	step(api.Do{Kind: api.DoCommand, Command: api.Command{Kind: api.CmdMirror, Policy: api.Normal, Volume: "m", Extents: 2, Parts: 2, Chunk: 4, Number: 1}}, api.Done{})
	step(api.Do{Kind: api.DoWrite, Name: "m", At: 1, Value: 3}, api.Done{})
	step(api.Do{Kind: api.DoMissing, At: 1, Flag: true}, api.Done{})
	step(api.Do{Kind: api.DoReport}, api.Done{})
	step(api.Do{Kind: api.DoWrite, Name: "m", At: 1, Value: 4}, api.Done{})
	step(api.Do{Kind: api.DoReport}, api.Done{Count: 1})
	step(api.Do{Kind: api.DoWork, At: 1, Number: 9}, api.Done{Error: api.ErrNone})
	step(api.Do{Kind: api.DoWork, Number: 9}, api.Done{})
	step(api.Do{Kind: api.DoReport}, api.Done{Count: 1})
	step(api.Do{Kind: api.DoMissing, At: 1}, api.Done{})
	step(api.Do{Kind: api.DoWork, Number: 7}, api.Done{})
	step(api.Do{Kind: api.DoWork, Number: 1}, api.Done{Count: 1})
	step(api.Do{Kind: api.DoReport}, api.Done{})
	step(api.Do{Kind: api.DoCommand, Command: api.Command{Kind: api.CmdTag, Volume: "m", Tag: "t"}}, api.Done{})
	step(api.Do{Kind: api.DoRead, Name: "m", At: 1}, api.Done{Value: 4})
	step(api.Do{Kind: api.DoStop}, api.Done{})
	step(api.Do{Kind: api.DoStart}, api.Done{})
	step(api.Do{Kind: api.DoReport}, api.Done{})
	step(api.Do{Kind: api.DoMissing, Flag: true}, api.Done{})
	step(api.Do{Kind: api.DoRead, Name: "m", At: 1}, api.Done{Value: 4})
}

// mark does a command that changes nothing of what volumes read, while disks come and go.
func (h *harness) mark(c api.Command) {
	x := h.do(api.Do{Kind: api.DoCommand, Command: c})
	switch x.Error {
	case api.OK:
		h.flushed(h.names()...)
	case api.ErrPower, api.ErrTwice, api.ErrNone, api.ErrRange, api.ErrStale, api.ErrSpace:
	default:
		h.fatal("command", c, x.Error)
	}
}

// P40.4: T6
func TestInterruption(t *testing.T) {
	end := func(h *harness, failures int) string {
		for _, c := range []api.Command{{Kind: api.CmdLinear, Volume: "x", Extents: 3}, {Kind: api.CmdMirror, Volume: "m", Extents: 1, Parts: 2, Chunk: 4, Number: 1}, {Kind: api.CmdMove, Volume: "x"}, {Kind: api.CmdLegOn, Volume: "m"}} {
			c.Policy = api.Normal
			h.command(c)
		}
		for range failures {
			h.must(api.Do{Kind: api.DoFuse, Number: 1 + h.r.Intn(120)})
			for !h.s.Array().Down() && h.must(api.Do{Kind: api.DoReport}).Count > 0 {
				h.work()
			}
			h.restart()
			h.settle()
		}
		h.must(api.Do{Kind: api.DoFuse})
		h.allWork()
		return plain(h.group())
	}
	want := end(newHarness(t, 0, 4), 0)
	for seed := range 20 {
		if got := end(newHarness(t, seed, 4), 4); got != want {
			t.Fatalf("seed %d: %s\nnot\n%s", seed, got, want)
		}
	}
}

// P40.4: T7
func TestArchive(t *testing.T) {
	h := newHarness(t, 1, 4)
	for i, c := range []api.Command{{Kind: api.CmdLinear, Extents: 3}, {Kind: api.CmdMirror, Extents: 2, Parts: 2, Chunk: 4}} {
		c.Volume, c.Policy = "v"+strconv.Itoa(i), api.Normal
		h.command(c)
	}
	for range 200 {
		h.request()
	}
	h.must(api.Do{Kind: api.DoFlush})
	h.flushed("v0", "v1")
	h.must(api.Do{Kind: api.DoKeep})
	kept := h.group()
	h.must(api.Do{Kind: api.DoCommand, Command: api.Command{Kind: api.CmdRemove, Volume: "v0"}})
	h.must(api.Do{Kind: api.DoCommand, Command: api.Command{Kind: api.CmdRename, Volume: "v1", Other: "w"}})
	h.must(api.Do{Kind: api.DoRestore, Number: kept.Seq})
	h.settle()
	g := h.group()
	for i := range g.Volumes {
		for k := range g.Volumes[i].Segments {
			g.Volumes[i].Segments[k].Stale = nil
		}
	}
	if plain(g) != plain(kept) {
		t.Errorf("the description is\n%s\nnot\n%s", plain(g), plain(kept))
	}
}
