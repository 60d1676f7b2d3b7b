package thincheck

import (
	"math/rand"
	"slices"
	"testing"

	"volumegroup/api"
	"volumegroup/block"
	"volumegroup/disk"
	"volumegroup/thinmeta"
	"volumegroup/thinwords"
	"volumegroup/treenode"
)

// pool is the words of a pool with the devices 1 (9 mappings), 2 (a snapshot of it with one more) and 3 (none).
func pool(t *testing.T) []uint64 {
	t.Helper()
	n := thinmeta.Size(64) + 100*api.BlockWords
	a, _ := disk.New([]int{n})
	x, _ := block.Span(a, 0, 0, n)
	thinmeta.Format(x, 64, 2)
	m, e := thinmeta.Open(x)
	if e != api.OK {
		t.Fatal(e)
	}
	add := func(id, b int) {
		d, _ := m.Alloc()
		if e := m.Map(id, b, d); e != api.OK {
			t.Fatal(e)
		}
	}
	m.Create(1)
	for b := range 9 {
		add(1, 10*b)
	}
	m.Snap(2, 1)
	add(2, 5)
	m.Create(3)
	if e := m.Commit(); e != api.OK {
		t.Fatal(e)
	}
	l, _ := a.Image(0)
	return l
}

// words is metadata that can be damaged in places.
type words []uint64

func (l words) block(b int) []uint64 { return l[b*16 : b*16+16] }
func (l words) root() int            { return int(l[0] & 0xFFFFF) }
func (l words) tree() int            { return int(l.block(l.root())[thinwords.RootTree]) }
func (l words) area() int            { return 1 + int(l.block(l.root())[thinwords.RootArea]) }

// device returns the root of the mapping tree of a device.
func (l words) device(i int) int { return int(l.block(l.tree())[8+i] & 0xFFFFF) }

// child returns a child of a block.
func (l words) child(b, i int) int { return int(l.block(b)[8+i]) }

// set changes a word of a block and seals it.
func (l words) set(b, i int, w uint64) {
	l.block(b)[i] = w
	copy(l.block(b), treenode.Seal(l.block(b)))
}

func at(kind int, where string, at, more int) api.Violation {
	return api.Violation{Kind: kind, Where: where, At: at, More: more}
}

// P29.1
func TestSingleViolations(t *testing.T) {
	good := words(pool(t))
	root, tree := good.root(), good.tree()
	one := good.device(0)
	leaf, last := good.child(one, 0), good.child(one, 1)
	if l := Check(good); len(l) > 0 {
		t.Fatalf("the pool: %v", l)
	}
	for i, c := range []struct {
		f    func(l words)
		want []api.Violation
	}{
		{func(l words) { l[0] ^= 1 }, []api.Violation{at(1, "commit", 0, 0)}},
		{func(l words) { l[0] = 0 }, []api.Violation{at(1, "commit", 0, 0)}},
		{func(l words) { l[0] = thinwords.CommitWord(1<<20-1, 1) }, []api.Violation{at(2, "root", 1<<20-1, 0)}},
		{func(l words) { l[0] = thinwords.CommitWord(root, 2) }, []api.Violation{at(2, "root", root, 0)}},
		{func(l words) { l.block(root)[9]++ }, []api.Violation{at(2, "root", root, 0)}},
		{func(l words) { l.set(root, thinwords.RootData, 16384) }, []api.Violation{at(2, "root", root, 0)}},
		{func(l words) { l.block(l.area())[3] = 1 }, []api.Violation{at(3, "area", 0, 0), at(13, "count", 12, 1)}},
		{func(l words) { l.set(root, thinwords.RootSum, 1<<40) }, []api.Violation{at(3, "area", 0, 0)}},
		{func(l words) { l.set(root, thinwords.RootTree, 1<<60) }, append([]api.Violation{at(4, "reference", 1<<40, 0)}, all(0, 10)...)},
		{func(l words) { l.set(root, thinwords.RootTree, uint64(root)) }, append([]api.Violation{at(4, "reference", root, 0)}, all(0, 10)...)},
		{func(l words) { l.block(tree)[3] ^= 1 }, append([]api.Violation{at(5, "node", tree, 0)}, all(0, 10)...)},
		{func(l words) { l.set(tree, 10, uint64(tree)) }, []api.Violation{at(4, "reference", tree, 0)}},
		{func(l words) { l.set(tree, 10, 2|1<<40) }, []api.Violation{at(4, "reference", 2, 0), at(12, "mapped", 3, 0)}},
		{func(l words) { l.set(tree, 15, 9) }, []api.Violation{at(7, "seq", tree, 0)}},
		{func(l words) { l.set(tree, 3, 70000) }, []api.Violation{at(10, "device", 70000, 0)}},
		{func(l words) { l.set(tree, 10, l.block(tree)[10]|7<<20) }, []api.Violation{at(10, "device", 3, 0)}},
		{func(l words) { l.set(tree, 10, l.block(tree)[10]+1<<40) }, []api.Violation{at(12, "mapped", 3, 0)}},
		{func(l words) { l.set(one, 15, 9) }, []api.Violation{at(7, "seq", one, 0)}},
		{func(l words) { l.set(leaf, 15, 9) }, slices.Repeat([]api.Violation{at(7, "seq", leaf, 0)}, good.refs(leaf))},
		{func(l words) { l.set(last, 1, 39) }, []api.Violation{at(9, "key", last, 39)}},
		{func(l words) { l.set(leaf, 1, 1) }, nil},
		{func(l words) { l.set(last, 8, l.block(last)[8]|2<<24) }, []api.Violation{at(11, "mapping", int(good.block(last)[1]), int(good.block(last)[8]&0xFFFFFF))}},
		{func(l words) { l.set(last, 8, l.block(last)[8]&^0xFFFFFF|200) }, []api.Violation{at(11, "mapping", int(good.block(last)[1]), 200), at(13, "count", int(good.block(last)[8]&0xFFFFFF), 1)}},
	} {
		l := slices.Clone(good)
		c.f(l)
		if got := Check(l); !slices.Equal(got, c.want) {
			t.Errorf("damage %d: %v, not %v", i, got, c.want)
		}
	}
	if l := Check(nil); !slices.Equal(l, []api.Violation{at(1, "commit", 0, 0)}) {
		t.Error("no words")
	}
	if l := Check(good[:16]); !slices.Equal(l, []api.Violation{at(2, "root", root, 0)}) {
		t.Error("sixteen words")
	}
}

// all is the violations of the counts of data blocks that are mapped once, if no leaf tells them.
func all(from, to int) []api.Violation {
	var l []api.Violation
	for d := from; d < to; d++ {
		n := 1
		if d < 4 {
			n = 2
		}
		l = append(l, at(13, "count", d, n))
	}
	return l
}

// refs returns how often inner nodes of mapping trees refer to a block.
func (l words) refs(b int) int {
	n := 0
	for i := range 2 {
		for k := range 7 {
			if r := l.block(l.device(i)); int(r[8+k]) == b {
				n++
			}
		}
	}
	return n
}

func TestInnerNodes(t *testing.T) {
	good := words(pool(t))
	one, two := good.device(0), good.device(1)
	leaf, last := good.child(one, 0), good.child(one, 1)
	edit := func(l words, b int, f func(n *api.TreeNode)) {
		n, e := treenode.Decode(l.block(b), b)
		if e != api.OK {
			t.Fatal(e)
		}
		f(&n)
		w, _ := treenode.Encode(n, b)
		copy(l.block(b), w)
	}
	kinds := func(f func(l words)) []int {
		l := slices.Clone(good)
		f(l)
		var k []int
		for _, v := range Check(l) {
			if v.Kind != 13 {
				k = append(k, v.Kind)
			}
		}
		return k
	}
	if two == one || good.child(two, 0) == leaf || good.child(two, 1) != last {
		t.Fatal("the snapshot shares the last leaf")
	}
	for i, c := range []struct {
		f    func(l words)
		want []int
	}{
		{func(l words) { edit(l, leaf, func(n *api.TreeNode) { n.Level = 3 }) }, []int{6, 12}},
		{func(l words) { edit(l, leaf, func(n *api.TreeNode) { n.Level, n.Entries, n.Seq = 3, nil, 5 }) }, []int{6, 12}},
		{func(l words) { edit(l, leaf, func(n *api.TreeNode) { n.Entries = nil }) }, []int{8, 12}},
		{func(l words) { edit(l, one, func(n *api.TreeNode) { n.Entries = n.Entries[:1] }) }, []int{8, 12}},
		{func(l words) { edit(l, last, func(n *api.TreeNode) { n.Entries = nil }) }, []int{8, 12, 8, 12}},
		{func(l words) { edit(l, one, func(n *api.TreeNode) { n.Entries[1].Value = uint64(leaf) }) }, []int{12}},
		{func(l words) { edit(l, one, func(n *api.TreeNode) { n.Entries[0].Key = 5 }) }, []int{9}},
		{func(l words) { edit(l, one, func(n *api.TreeNode) { n.Entries[1].Key = 25 }) }, []int{9}},
		{func(l words) { edit(l, one, func(n *api.TreeNode) { n.Entries[0].Value = uint64(l.tree()) }) }, []int{4, 12}},
		{func(l words) { edit(l, one, func(n *api.TreeNode) { n.Entries[0].Value = uint64(l.root()) }) }, []int{4, 12}},
		{func(l words) { edit(l, one, func(n *api.TreeNode) { n.Entries[0].Value = 1 << 50 }) }, []int{4, 12}},
		{func(l words) { l.block(last)[4] ^= 8 }, []int{5, 12, 5, 12}},
	} {
		if got := kinds(c.f); !slices.Equal(got, c.want) {
			t.Errorf("damage %d: kinds %v, not %v", i, got, c.want)
		}
	}
}

func TestManyViolations(t *testing.T) {
	l := words(pool(t))
	clear(l.block(l.area()))
	for i := range l.block(l.area()) {
		l.block(l.area())[i] = 0x0005000500050005
	}
	got := Check(l)
	if len(got) != api.MaxViolations || got[0].Kind != 3 || got[63] != at(13, "count", 62, 5) {
		t.Errorf("%d violations, the last one %v", len(got), got[len(got)-1])
	}
	var one [816]uint64
	a, _ := disk.New([]int{816})
	x, _ := block.Span(a, 0, 0, 816)
	thinmeta.Format(x, 64, 1)
	x.Write(16, 7)
	image, _ := a.Image(0)
	copy(one[:], image)
	if got := Check(one[:]); !slices.Equal(got, []api.Violation{at(3, "area", 0, 0), at(13, "count", 0, 7)}) {
		t.Errorf("the example: %v", got)
	}
}

// A device that the device tree has twice is walked for each entry, and a leaf to which it refers again counts once.
func TestDevicesTwice(t *testing.T) {
	a, _ := disk.New([]int{2000})
	x, _ := block.Span(a, 0, 0, 2000)
	thinmeta.Format(x, 64, 1)
	m, _ := thinmeta.Open(x)
	for id := range 8 {
		m.Create(id)
	}
	m.Commit()
	image, _ := a.Image(0)
	l := words(image)
	tree := l.tree()
	if len(Check(l)) != 0 {
		t.Fatal("the pool")
	}
	second := l.child(tree, 1)
	l.set(tree, 9, uint64(l.child(tree, 0)))
	if got := Check(l); len(got) != 0 {
		t.Errorf("a leaf again: %v", got)
	}
	l.set(tree, 9, uint64(second))
	l.set(second, 1, 3)
	l.set(second, 8, l.block(second)[8]|5<<40)
	if got := Check(l); !slices.Equal(got, []api.Violation{at(9, "key", second, 3), at(12, "mapped", 3, 0)}) {
		t.Errorf("a device twice: %v", got)
	}
}

// P29.2
func TestOperationsLeaveNothing(t *testing.T) {
	for seed := range 60 {
		r := rand.New(rand.NewSource(int64(seed)))
		n := thinmeta.Size(64) + 40*api.BlockWords
		a, _ := disk.New([]int{n})
		x, _ := block.Span(a, 0, 0, n)
		thinmeta.Format(x, 64, 1)
		for range 4 {
			m, e := thinmeta.Open(x)
			if e != api.OK {
				t.Fatal(e)
			}
			a.Fuse(1 + r.Intn(500))
			for range 80 {
				id, b := r.Intn(4), r.Intn(30)
				switch r.Intn(8) {
				case 0:
					m.Create(id)
				case 1:
					m.Snap(id, b%4)
				case 2:
					m.Delete(id)
				case 3:
					m.Commit()
				case 4:
					m.Unmap(id, b)
				default:
					if d, e := m.Alloc(); e == api.OK && m.Map(id, b, d) != api.OK {
						m.Release(d)
					}
				}
			}
			keep := make([]bool, a.Unflushed())
			for i := range keep {
				keep[i] = r.Intn(2) == 0
			}
			a.Restart(keep)
			image, _ := a.Image(0)
			if l := Check(image); len(l) > 0 {
				t.Fatalf("seed %d: %v", seed, l)
			}
		}
	}
}

// What Check has nothing to say of can be opened, whatever words are changed.
func TestOpenBehindCheck(t *testing.T) {
	good := words(pool(t))
	r := rand.New(rand.NewSource(1))
	a, _ := disk.New([]int{len(good)})
	x, _ := block.Span(a, 0, 0, len(good))
	for range 3000 {
		l := slices.Clone(good)
		for range 1 + r.Intn(3) {
			b := 3 + r.Intn(25)
			i := r.Intn(16)
			w := []uint64{uint64(r.Intn(30)), l.block(b)[i] + 1, l.block(b)[i] ^ 1<<r.Intn(64), l.block(l.tree())[8]}[r.Intn(4)]
			if b == l.root() {
				continue
			}
			l.set(b, i, w)
		}
		found := Check(l)
		a.Load(0, l)
		if _, e := thinmeta.Open(x); e != api.OK && len(found) == 0 {
			t.Fatalf("Open: %d", e)
		} else if e == api.OK && len(found) > 0 && !slices.ContainsFunc(found, func(v api.Violation) bool { return v.Kind == 13 || v.Kind == 9 }) {
			t.Fatalf("Open accepts what has %v", found)
		}
	}
}
