package system

import (
	"math/rand"
	"slices"
	"strconv"
	"testing"

	"volumegroup/api"
	"volumegroup/describe"
	"volumegroup/model"
	"volumegroup/plan"
)

const group = 77

// harness drives a system, and knows for each sector of each volume what it may read.
type harness struct {
	t     *testing.T
	r     *rand.Rand
	seed  int
	s     *System
	may   map[string][][]uint64
	next  uint64
	trace []api.Do
}

func newHarness(t *testing.T, seed, disks int) *harness {
	t.Helper()
	s, e := New(slices.Repeat([]int{8 + 2100 + 700}, disks))
	if e != api.OK {
		t.Fatal(e)
	}
	h := &harness{t: t, r: rand.New(rand.NewSource(int64(seed))), seed: seed, s: s, may: map[string][][]uint64{}, next: 1}
	h.must(api.Do{Kind: api.DoInit, Name: "vg", Value: group, At: 4, Number: 2100})
	h.must(api.Do{Kind: api.DoStart})
	return h
}

func (h *harness) do(d api.Do) api.Done {
	h.trace = append(h.trace, d)
	return h.s.Do(d)
}

func (h *harness) fatal(what string, l ...any) {
	h.t.Helper()
	n := max(len(h.trace)-12, 0)
	h.t.Fatalf("seed %d: %s %v\nlast steps: %v", h.seed, what, l, h.trace[n:])
}

func (h *harness) must(d api.Do) api.Done {
	h.t.Helper()
	x := h.do(d)
	if x.Error != api.OK {
		h.fatal("step", d.Kind, d.Name, d.Command, x.Error)
	}
	return x
}

func (h *harness) group() api.Group {
	g, _ := h.s.Group()
	return g
}

// names returns the volumes that can be read, in the order of the group.
func (h *harness) names() []string {
	var l []string
	for _, v := range h.group().Volumes {
		if _, ok := h.may[v.Name]; ok && !v.Hidden {
			l = append(l, v.Name)
		}
	}
	return l
}

func last(l []uint64) uint64 { return l[len(l)-1] }

// flushed leaves one candidate to each sector.
func (h *harness) flushed(names ...string) {
	for _, n := range names {
		for at, l := range h.may[n] {
			h.may[n][at] = l[len(l)-1:]
		}
	}
}

func zeros(n int) [][]uint64 {
	var l [][]uint64
	for range n {
		l = append(l, []uint64{0})
	}
	return l
}

// clone copies what sectors may read; now only what they read now.
func clone(l [][]uint64, now bool) [][]uint64 {
	var c [][]uint64
	for _, x := range l {
		if now {
			x = x[len(x)-1:]
		}
		c = append(c, slices.Clone(x))
	}
	return c
}

// took lets a command take effect in what is known.
func (h *harness) took(c api.Command, before api.Group) {
	n := c.Extents * before.Extent
	v, _ := model.Volume(before, c.Volume)
	switch c.Kind {
	case api.CmdLinear, api.CmdStriped, api.CmdMirror, api.CmdParity, api.CmdThin:
		h.may[c.Volume] = zeros(n)
	case api.CmdSnapshot:
		h.may[c.Volume] = clone(h.may[c.Other], true)
	case api.CmdExtend:
		h.may[c.Volume] = append(h.may[c.Volume], zeros(n)...)
	case api.CmdShrink:
		h.may[c.Volume] = h.may[c.Volume][:n]
	case api.CmdRemove:
		delete(h.may, c.Volume)
	case api.CmdRename:
		if x, ok := h.may[c.Volume]; ok {
			h.may[c.Other] = x
			delete(h.may, c.Volume)
		}
	case api.CmdCut:
		k := c.Number * before.Extent
		h.may[c.Other] = clone(h.may[c.Volume][k:], false)
		h.may[c.Volume] = h.may[c.Volume][:k]
	case api.CmdJoin:
		h.may[c.Volume] = append(h.may[c.Volume], h.may[c.Other]...)
		delete(h.may, c.Other)
	case api.CmdLegOff:
		if c.Other != "" {
			h.may[c.Other] = clone(h.may[v.Name], false)
		}
	}
}

// plain is the text of a description but for its number.
func plain(g api.Group) string {
	g.Seq = 0
	s, _ := describe.Text(g)
	return s
}

// command does a command; behind a power failure it finds out whether it has taken effect.
func (h *harness) command(c api.Command) {
	before := h.group()
	next, _, _, e := plan.Plan(before, c)
	x := h.do(api.Do{Kind: api.DoCommand, Command: c})
	switch {
	case e != api.OK:
		if internal := c.Kind >= api.CmdStep && c.Kind <= api.CmdFresh; x.Error != e && x.Error != api.ErrPower && !internal {
			h.fatal("command", c, x.Error, "planned", e)
		}
	case x.Error == api.OK:
		h.flushed(h.names()...)
		h.took(c, before)
	}
	if !h.s.Array().Down() {
		return
	}
	h.restart()
	got := plain(h.group())
	switch {
	case x.Error == api.OK: // the power failed behind the commit
	case e == api.OK && got == plain(next) && got != plain(before):
		h.took(c, before)
	case got != plain(before):
		h.fatal("the description is neither the old one nor the new one:\n"+got, c)
	}
	h.settle()
}

// restart lets the power come back, and activates the group; the power may fail again in this.
func (h *harness) restart() {
	for {
		keep := make([]bool, h.s.Array().Unflushed())
		for i := range keep {
			keep[i] = h.r.Intn(2) == 0
		}
		h.must(api.Do{Kind: api.DoRestart, Keep: keep})
		if h.r.Intn(4) == 0 {
			h.must(api.Do{Kind: api.DoFuse, Number: 1 + h.r.Intn(60)})
		}
		x := h.do(api.Do{Kind: api.DoStart})
		if x.Error == api.OK {
			h.must(api.Do{Kind: api.DoFuse})
			return
		}
		if x.Error != api.ErrPower {
			h.fatal("DoStart", x.Error)
		}
	}
}

// settle reads all sectors behind a power failure; what they read, they read from then on.
func (h *harness) settle() {
	for _, n := range h.names() {
		for at, l := range h.may[n] {
			v, e := h.read(n, at)
			if e == api.OK {
				if !slices.Contains(l, v) {
					h.fatal("sector", at, "of", n, "is", v, "not one of", l)
				}
				h.may[n][at] = []uint64{v}
			}
		}
	}
	if h.s.Array().Down() {
		h.restart()
		h.settle()
	}
}

func (h *harness) read(n string, at int) (uint64, api.Errno) {
	x := h.do(api.Do{Kind: api.DoRead, Name: n, At: at})
	if x.Error != api.OK && x.Error != api.ErrPower {
		h.fatal("read of", n, at, x.Error)
	}
	return x.Value, x.Error
}

// request does a read, a write, or a flush.
func (h *harness) request() {
	l := h.names()
	if len(l) == 0 {
		return
	}
	n := l[h.r.Intn(len(l))]
	at := h.r.Intn(len(h.may[n]))
	v, _ := model.Volume(h.group(), n)
	switch k := h.r.Intn(12); {
	case k < 6 && !v.ReadOnly:
		h.next++
		x := h.do(api.Do{Kind: api.DoWrite, Name: n, At: at, Value: h.next})
		switch x.Error {
		case api.OK, api.ErrPower:
			h.may[n][at] = append(h.may[n][at], h.next)
		case api.ErrSpace, api.ErrRoom:
		default:
			h.fatal("write to", n, at, x.Error)
		}
	case k < 10:
		if v, e := h.read(n, at); e == api.OK && v != last(h.may[n][at]) {
			h.fatal("sector", at, "of", n, "is", v, "not", h.may[n][at])
		}
	case k < 11:
		if h.do(api.Do{Kind: api.DoFlush, Name: n}).Error == api.OK {
			h.flushed(n)
		}
	default:
		if h.do(api.Do{Kind: api.DoFlush}).Error == api.OK {
			h.flushed(l...)
		}
	}
}

// work goes on with a piece of work, if there is one.
func (h *harness) work() {
	n := h.must(api.Do{Kind: api.DoReport}).Count
	if n == 0 {
		return
	}
	x := h.do(api.Do{Kind: api.DoWork, At: h.r.Intn(n), Number: 1 + h.r.Intn(6)})
	if x.Error != api.OK && x.Error != api.ErrPower {
		h.fatal("work", x.Error)
	}
}

// allWork goes on until nothing is left; it reports whether that was possible.
func (h *harness) allWork() bool {
	for range 3000 {
		if h.must(api.Do{Kind: api.DoReport}).Count == 0 {
			return true
		}
		h.must(api.Do{Kind: api.DoWork, Number: 40})
	}
	return false
}

// checked lets the checker look, which may tell of nothing but what commands have left that were interrupted.
func (h *harness) checked(permitted ...int) {
	for _, v := range h.must(api.Do{Kind: api.DoCheck}).Violations {
		if v.Kind != 11 && !slices.Contains(permitted, v.Kind) {
			h.fatal("the checker:", v)
		}
	}
}

// anyCommand makes up a command.
func (h *harness) anyCommand() api.Command {
	r := h.r
	g := h.group()
	volume := func() string {
		if len(g.Volumes) == 0 {
			return "v0"
		}
		return g.Volumes[r.Intn(len(g.Volumes))].Name
	}
	c := api.Command{Kind: 1 + r.Intn(30), Volume: volume(), Other: volume(), Extents: 1 + r.Intn(3), Parts: 2 + r.Intn(3), Chunk: 1 << r.Intn(3), Policy: api.Normal, Number: r.Intn(3), Mode: 1 + r.Intn(2), Tag: ""}
	fresh := "v" + strconv.Itoa(r.Intn(6))
	switch c.Kind {
	case api.CmdLinear, api.CmdStriped, api.CmdMirror, api.CmdParity, api.CmdPool, api.CmdThin, api.CmdSnapshot:
		c.Volume = fresh
	case api.CmdCut, api.CmdRename:
		c.Other = fresh
	case api.CmdLegOff:
		c.Other = []string{"", fresh}[r.Intn(2)]
	case api.CmdDiskAdd, api.CmdDiskRemove, api.CmdClosed, api.CmdReadOnly, api.CmdMove:
		c.Number = 0
	}
	if c.Kind == api.CmdPool {
		c.Number, c.Extents = 210, 6
	}
	if c.Kind == api.CmdDiskAdd || c.Kind == api.CmdDiskRemove || c.Kind == api.CmdTag || c.Kind == api.CmdUntag {
		c.Kind = []int{api.CmdThin, api.CmdSnapshot, api.CmdCache, api.CmdMove}[r.Intn(4)]
		if c.Kind <= api.CmdSnapshot {
			c.Volume = fresh
		}
	}
	return c
}
