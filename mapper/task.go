package mapper

import (
	"volumegroup/api"
	"volumegroup/block"
	"volumegroup/table"
)

// A carrier carries out a task of one kind, unless it has to wait for a device, which it returns then.
type carrier func(n *node, t api.Task) (v uint64, wait *node, e api.Errno)

func (m *Mapper) carriers() map[int]carrier {
	return map[int]carrier{api.TaskRead: m.read, api.TaskWrite: m.write, api.TaskFlush: m.flush}
}

// carry carries out a task of a kind that exists.
func (m *Mapper) carry(n *node, t api.Task) (uint64, *node, api.Errno) {
	return m.carriers()[t.Kind](n, t)
}

// now carries out a task that must not wait.
func (m *Mapper) now(n *node, t api.Task) (uint64, api.Errno) {
	v, wait, e := m.carry(n, t)
	if wait != nil {
		return 0, api.ErrState
	}
	return v, e
}

// find follows a sector down to a base, or to a device of which the sector has none (a target that fails or reads as 0),
// or to a device that is suspended.
func (m *Mapper) find(n *node, at int) (x block.Device, sector int, wait *node, e api.Errno) {
	for !n.isBase {
		if n.suspended {
			return nil, 0, n, api.OK
		}
		k, place, ok := table.Find(n.live, at)
		if !ok {
			return nil, 0, nil, api.ErrRange
		}
		t := n.live[k]
		switch {
		case t.Fail:
			return block.Fail(t.Length), place, nil, api.OK
		case t.On == "":
			return block.Zero(t.Length), place, nil, api.OK
		}
		n, at = m.nodes[t.On], t.Offset+place
	}
	return n.base, at, nil, api.OK
}

func (m *Mapper) read(n *node, t api.Task) (uint64, *node, api.Errno) {
	x, at, wait, e := m.find(n, t.At)
	if e != api.OK || wait != nil {
		return 0, wait, e
	}
	v, e := x.Read(at)
	if e != api.OK {
		v = 0
	}
	return v, nil, e
}

func (m *Mapper) write(n *node, t api.Task) (uint64, *node, api.Errno) {
	x, at, wait, e := m.find(n, t.At)
	if e != api.OK || wait != nil {
		return 0, wait, e
	}
	return 0, nil, x.Write(at, t.Value)
}

// flush flushes all that is below a device, each base once, unless a device on the way is suspended.
func (m *Mapper) flush(n *node, _ api.Task) (uint64, *node, api.Errno) {
	bases, wait := m.below(n)
	if wait != nil {
		return 0, wait, api.OK
	}
	first := api.OK
	for _, b := range bases {
		if e := b.base.Flush(); first == api.OK {
			first = e
		}
	}
	return 0, nil, first
}

// below returns the bases below a device by live tables, or the first device on the way that is suspended.
func (m *Mapper) below(n *node) (bases []*node, wait *node) {
	seen := map[string]bool{}
	var visit func(n *node)
	visit = func(n *node) {
		if seen[n.name] || wait != nil {
			return
		}
		seen[n.name] = true
		switch {
		case n.isBase:
			bases = append(bases, n)
		case n.suspended:
			wait = n
		default:
			for _, s := range table.Uses(n.live) {
				visit(m.nodes[s])
			}
		}
	}
	visit(n)
	return bases, wait
}

// Do carries out a task, or lets it wait.
func (m *Mapper) Do(name string, t api.Task) (api.Answer, api.Errno) {
	n := m.nodes[name]
	switch {
	case n == nil:
		return api.Answer{}, api.ErrNone
	case m.carriers()[t.Kind] == nil:
		return api.Answer{}, api.ErrKind
	case !n.isBase && !n.hasLive && !n.suspended:
		return api.Answer{}, api.ErrState
	}
	v, wait, e := m.carry(n, t)
	if wait == nil {
		return api.Answer{Done: true, Value: v, Error: e}, api.OK
	}
	m.tickets++
	wait.queue = append(wait.queue, waiting{n, t, m.tickets})
	return api.Answer{Ticket: m.tickets}, api.OK
}

// Answers returns the answers of tasks that waited.
func (m *Mapper) Answers() []api.Answer {
	l := m.answers
	m.answers = nil
	return l
}

// handle is a device of a mapper as a block device.
type handle struct {
	mapper *Mapper
	node   *node
}

// do carries out a task. A base that stands on this device itself would never come to an end.
func (h handle) do(t api.Task) (uint64, api.Errno) {
	if h.node.busy {
		return 0, api.ErrCycle
	}
	h.node.busy = true
	defer func() { h.node.busy = false }()
	return h.mapper.now(h.node, t)
}

// Device returns a base, or a device whose requests are tasks that never wait.
func (m *Mapper) Device(name string) (block.Device, api.Errno) {
	n := m.nodes[name]
	switch {
	case n == nil:
		return nil, api.ErrNone
	case n.isBase:
		return n.base, api.OK
	}
	return handle{m, n}, api.OK
}

func (h handle) Size() int {
	if h.node.removed {
		return 0
	}
	return h.node.size()
}

func (h handle) has(at int) bool {
	return at >= 0 && at < h.Size()
}

func (h handle) Read(at int) (uint64, api.Errno) {
	if !h.has(at) {
		return 0, api.ErrRange
	}
	return h.do(api.Task{Kind: api.TaskRead, At: at})
}

func (h handle) Write(at int, v uint64) api.Errno {
	if !h.has(at) {
		return api.ErrRange
	}
	_, e := h.do(api.Task{Kind: api.TaskWrite, At: at, Value: v})
	return e
}

func (h handle) Flush() api.Errno {
	if h.node.removed || !h.node.hasLive {
		return api.ErrState
	}
	_, e := h.do(api.Task{Kind: api.TaskFlush})
	return e
}
