// Package thinwalk walks through the trees of thin metadata, whatever is wrong with them: layers 29 and 30 share it.
package thinwalk

import (
	"cmp"
	"math"
	"slices"

	"volumegroup/api"
	"volumegroup/thinwords"
	"volumegroup/treenode"
)

// The kinds of violations.
const (
	Commit = 1 + iota
	Root
	Area
	Reference
	Node
	Level
	Seq
	Empty
	Key
	Device
	Mapping
	Mapped
	Count
)

// Where returns the word of a kind of violations.
func Where(kind int) string {
	return []string{"", "commit", "root", "area", "reference", "node", "level", "seq", "empty", "key", "device", "mapping", "mapped", "count"}[kind]
}

// Block is a block's number as a violation tells it.
func Block(b uint64) int {
	return int(min(b, 1<<40))
}

// node is a node that was gone through, with what it tells: its mappings, and its children with theirs.
type node struct {
	children []*node
	mappings []api.ThinMapping
	entries  int // of the leaves
}

// thin is a device that an entry tells.
type thin struct {
	api.ThinDevice
	root     uint64
	mappings int
	top      *node
}

// Walk is a walk below a root block. Report is told each violation; it returns whether the walk goes on.
type Walk struct {
	Words  []uint64
	At     int // the root block
	Root   thinwords.Root
	Report func(v api.Violation) bool
	Clean  bool // nodes and entries with violations are left out
	Left   int  // how many were left out
	Counts []int

	layout  thinwords.Layout
	nodes   map[int]*node
	inTree  map[int]bool // blocks to which the device tree refers
	devices []*thin
	stopped bool
}

// reference is a reference to a node: from outside, or from a parent of this level and Seq.
type reference struct {
	block     uint64
	top       bool
	level     int
	seq       int
	low, high int
	mapping   bool
}

// Run walks through the device tree, and then through the mapping trees.
func (w *Walk) Run() {
	w.layout = thinwords.NewLayout(len(w.Words), w.Root.Data)
	w.nodes, w.inTree, w.Counts = map[int]*node{}, map[int]bool{}, make([]int, w.Root.Data)
	top := reference{top: true, seq: w.Root.Seq, low: math.MinInt, high: math.MaxInt}
	top.block = w.Root.Tree
	w.visit(top)
	slices.SortStableFunc(w.devices, func(a, b *thin) int { return cmp.Compare(a.ID, b.ID) })
	top.mapping = true
	for _, d := range w.devices {
		if w.stopped {
			return
		}
		top.block = d.root
		d.top = w.visit(top)
		if d.top.entries != d.mappings {
			w.tell(Mapped, d.ID, 0)
		}
	}
}

func (w *Walk) tell(kind, at, more int) {
	if !w.stopped && !w.Report(api.Violation{Kind: kind, Where: Where(kind), At: at, More: more}) {
		w.stopped = true
	}
}

// block returns the words of a block that exists.
func (w *Walk) block(b int) []uint64 {
	return w.Words[b*api.BlockWords : (b+1)*api.BlockWords]
}

// leaveOut returns what a node tells that is left out.
func (w *Walk) leaveOut() *node {
	w.Left++
	return &node{}
}

// visit looks at a reference, and goes through the node if that has not been done.
func (w *Walk) visit(r reference) *node {
	if w.stopped {
		return &node{}
	}
	at, b := Block(r.block), int(r.block)
	if !w.layout.IsNode(r.block) || b == w.At || r.mapping && w.inTree[b] {
		w.tell(Reference, at, 0)
		return w.leaveOut()
	}
	if !r.mapping {
		w.inTree[b] = true
	}
	n, e := treenode.Decode(w.block(b), b)
	if e != api.OK {
		w.tell(Node, at, 0)
		return w.leaveOut()
	}
	if !w.fits(r, n, at) {
		return w.leaveOut()
	}
	if x := w.nodes[b]; x != nil {
		return x
	}
	x := &node{}
	w.nodes[b] = x
	w.through(n, r, x)
	return x
}

// fits looks at the header of a node; it reports whether the walk may go through it.
func (w *Walk) fits(r reference, n api.TreeNode, at int) bool {
	if !r.top && n.Level != r.level-1 {
		w.tell(Level, at, 0)
		return false
	}
	seq := n.Seq > r.seq
	empty := !r.top && len(n.Entries) == 0 || r.top && n.Level > 0 && len(n.Entries) < 2
	if seq {
		w.tell(Seq, at, 0)
	}
	if empty {
		w.tell(Empty, at, 0)
	}
	return !(w.Clean && (seq || empty))
}

// through goes through the entries of a node.
func (w *Walk) through(n api.TreeNode, r reference, x *node) {
	for i, y := range n.Entries {
		bad := y.Key < r.low || y.Key >= r.high
		if bad {
			w.tell(Key, Block(r.block), y.Key)
		}
		switch {
		case n.Level == 0 && r.mapping:
			w.mapping(y, bad, x)
		case n.Level == 0:
			w.device(y, bad)
		case bad && w.Clean:
			w.Left++
		default:
			high := r.high
			if i+1 < len(n.Entries) {
				high = n.Entries[i+1].Key
			}
			c := w.visit(reference{y.Value, false, n.Level, n.Seq, y.Key, high, r.mapping})
			x.children = append(x.children, c)
			x.entries += c.entries
		}
	}
}

// device takes an entry of a leaf of the device tree.
func (w *Walk) device(y api.TreeEntry, bad bool) {
	f := thinwords.Split(thinwords.DeviceWidths(), y.Value)
	if y.Key > api.MaxThinID || f[1] > uint64(w.Root.Time) {
		w.tell(Device, y.Key, 0)
		bad = true
	}
	if bad && w.Clean {
		w.Left++
		return
	}
	w.devices = append(w.devices, &thin{ThinDevice: api.ThinDevice{ID: y.Key, Time: int(f[1])}, root: f[0], mappings: int(f[2])})
}

// mapping takes an entry of a leaf of a mapping tree.
func (w *Walk) mapping(y api.TreeEntry, bad bool, x *node) {
	f := thinwords.Split(thinwords.MappingWidths(), y.Value)
	d := int(f[0])
	if d >= w.Root.Data || f[1] > uint64(w.Root.Time) {
		w.tell(Mapping, y.Key, d)
		bad = true
	}
	x.entries++
	if d < w.Root.Data {
		w.Counts[d]++
	}
	if bad && w.Clean {
		w.Left++
		return
	}
	x.mappings = append(x.mappings, api.ThinMapping{Block: y.Key, Data: d, Time: int(f[1])})
}

// collect appends the mappings of a node and of all that is below it.
func (x *node) collect(l []api.ThinMapping) []api.ThinMapping {
	l = append(l, x.mappings...)
	for _, c := range x.children {
		l = c.collect(l)
	}
	return l
}

// Dump returns what the walk has found.
func (w *Walk) Dump() api.Dump {
	d := api.Dump{Data: w.Root.Data, Chunk: w.Root.Chunk, Time: w.Root.Time}
	for _, x := range w.devices {
		x.Mappings = x.top.collect(nil)
		slices.SortStableFunc(x.Mappings, func(a, b api.ThinMapping) int { return cmp.Compare(a.Block, b.Block) })
		d.Devices = append(d.Devices, x.ThinDevice)
	}
	return d
}
