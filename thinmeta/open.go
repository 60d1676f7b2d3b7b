package thinmeta

import (
	"maps"
	"math"

	"volumegroup/api"
	"volumegroup/block"
	"volumegroup/cowtree"
	"volumegroup/spacemap"
	"volumegroup/thinwords"
)

// seen is a node that was read: entries is the number of its own ones, leaves that of the leaves below it.
type seen struct {
	level, seq, entries, leaves int
	mapping                     bool // it is in a mapping tree
}

// reference is a reference to a node: from a root block, the device tree or a parent of this level and Seq.
type reference struct {
	block   uint64
	top     bool // a root, which has no parent
	level   int  // of the parent
	seq     int  // the greatest Seq that the node may have
	low     int  // the least key
	high    int  // what is greater than all keys
	mapping bool
}

// opener reads metadata and counts references.
type opener struct {
	thinwords.Layout
	thinwords.Root
	store   *cowtree.Store
	at      int // the root block
	counts  []int
	nodes   map[int]seen
	devices map[int]thin
	order   []int // devices in ascending order
}

// fits checks what is looked at at each reference to a node.
func (r reference) fits(n seen) bool {
	if r.top {
		return n.seq <= r.seq && (n.level == 0 || n.entries >= 2)
	}
	return n.level == r.level-1 && n.seq <= r.seq && n.entries >= 1
}

// visit goes through a node and all that is below it, and returns the number of entries in leaves.
func (o *opener) visit(r reference) (int, api.Errno) {
	known, again := o.nodes[int(r.block)]
	if !o.IsNode(r.block) || int(r.block) == o.at || again && known.mapping != r.mapping {
		return 0, api.ErrDamage
	}
	b := int(r.block)
	o.counts[b]++
	if again {
		if !r.fits(known) {
			return 0, api.ErrDamage
		}
		return known.leaves, api.OK
	}
	n, e := o.store.Load(b)
	if e != api.OK {
		return 0, e
	}
	x := seen{n.Level, n.Seq, len(n.Entries), 0, r.mapping}
	if !r.fits(x) {
		return 0, api.ErrDamage
	}
	for _, y := range n.Entries {
		if y.Key < r.low || y.Key >= r.high || n.Level == 0 && !o.takeEntry(y, r.mapping) {
			return 0, api.ErrDamage
		}
	}
	x.leaves, e = o.children(n, r)
	o.nodes[b] = x
	return x.leaves, e
}

// children goes through the children of a node, and returns the number of entries in leaves.
func (o *opener) children(n api.TreeNode, r reference) (int, api.Errno) {
	if n.Level == 0 {
		return len(n.Entries), api.OK
	}
	total := 0
	for i, y := range n.Entries {
		high := r.high
		if i+1 < len(n.Entries) {
			high = n.Entries[i+1].Key
		}
		k, e := o.visit(reference{y.Value, false, n.Level, n.Seq, y.Key, high, r.mapping})
		if e != api.OK {
			return 0, e
		}
		total += k
	}
	return total, api.OK
}

// takeEntry checks an entry of a leaf, and takes a device.
func (o *opener) takeEntry(x api.TreeEntry, mapping bool) bool {
	if mapping {
		m := thinwords.Split(thinwords.MappingWidths(), x.Value)
		return m[0] < uint64(o.Data) && m[1] <= uint64(o.Time)
	}
	d := thinwords.Split(thinwords.DeviceWidths(), x.Value)
	if x.Key > api.MaxThinID || d[1] > uint64(o.Time) || len(o.order) == api.MaxThin {
		return false
	}
	o.devices[x.Key] = thin{int(d[0]), int(d[1]), int(d[2])}
	o.order = append(o.order, x.Key)
	return true
}

// trees reads the device tree, and then the mapping trees.
func (o *opener) trees() api.Errno {
	top := reference{top: true, seq: o.Seq, high: math.MaxInt}
	top.block = o.Tree
	if _, e := o.visit(top); e != api.OK {
		return e
	}
	top.mapping = true
	for _, id := range o.order {
		d := o.devices[id]
		top.block = uint64(d.root)
		n, e := o.visit(top)
		if e == api.OK && n != d.mappings {
			e = api.ErrDamage
		}
		if e != api.OK {
			return e
		}
	}
	return api.OK
}

// readTop reads the commit word and the root block.
func (o *opener) readTop(x block.Device) api.Errno {
	w, e := x.Read(0)
	if e != api.OK {
		return e
	}
	b, seq, ok := thinwords.ReadCommit(w)
	if !ok {
		return api.ErrForm
	}
	if b >= thinwords.NewLayout(x.Size(), 1).Blocks {
		return api.ErrDamage
	}
	words, e := block.ReadAll(x, b*api.BlockWords, api.BlockWords)
	if e != api.OK {
		return e
	}
	o.Root, ok = thinwords.ReadRoot(words, b, x.Size())
	if !ok || o.Seq != seq {
		return api.ErrDamage
	}
	o.at, o.Layout = b, thinwords.NewLayout(x.Size(), o.Data)
	return api.OK
}

// readArea returns the counts of the data blocks.
func (o *opener) readArea(x block.Device) ([]int, api.Errno) {
	words, e := block.ReadAll(x, o.AreaAt(o.Area), o.AreaWords())
	if e != api.OK {
		return nil, e
	}
	if thinwords.Short(words...) != o.Sum {
		return nil, api.ErrDamage
	}
	return thinwords.Counts(words, o.Data), api.OK
}

// open reads the last commit of a device.
func open(x block.Device) (*state, api.Errno) {
	if e := x.Flush(); e != api.OK {
		return nil, e
	}
	o := &opener{nodes: map[int]seen{}, devices: map[int]thin{}}
	if e := o.readTop(x); e != api.OK {
		return nil, e
	}
	dataCounts, e := o.readArea(x)
	if e != api.OK {
		return nil, e
	}
	empty, _ := spacemap.New(o.Blocks)
	o.store = cowtree.New(x, empty, nil, 0)
	o.counts = make([]int, o.Blocks)
	for b := range o.FirstNode() {
		o.counts[b] = 1
	}
	o.counts[o.at] = 1
	if e := o.trees(); e != api.OK {
		return nil, e
	}
	blocks, _ := spacemap.Load(o.counts)
	data, _ := spacemap.Load(dataCounts)
	return &state{
		Store: cowtree.New(x, blocks, data, o.Seq+1), device: x, Layout: o.Layout, last: o.Root, at: o.at, blocks: blocks, data: data,
		tree: int(o.Tree), time: o.Time, devices: o.devices, was: maps.Clone(o.devices),
	}, api.OK
}
