package cowtree

import (
	"maps"
	"math/rand"
	"slices"
	"testing"

	"volumegroup/api"
	"volumegroup/block"
	"volumegroup/disk"
	"volumegroup/spacemap"
	"volumegroup/treenode"
)

// world is a store of n blocks and, for trees that own data, 50 data blocks.
type world struct {
	t            *testing.T
	a            *disk.Array
	x            block.Device
	blocks, data *spacemap.Map
	s            *Store
}

func newWorld(t *testing.T, n int) *world {
	t.Helper()
	a, e := disk.New([]int{n * api.BlockWords})
	if e != api.OK {
		t.Fatal(e)
	}
	x, _ := block.Span(a, 0, 0, n*api.BlockWords)
	blocks, _ := spacemap.New(n)
	data, _ := spacemap.New(50)
	return &world{t, a, x, blocks, data, New(x, blocks, data, 1)}
}

func (w *world) insert(root, key int, value uint64) int {
	w.t.Helper()
	r, _, _, e := w.s.Insert(root, key, value, false)
	if e != api.OK {
		w.t.Fatalf("Insert(%d): %d", key, e)
	}
	return r
}

func (w *world) remove(root, key int) int {
	w.t.Helper()
	r, _, had, e := w.s.Delete(root, key, false)
	if e != api.OK || !had {
		w.t.Fatalf("Delete(%d): %v, %d", key, had, e)
	}
	return r
}

// tree is a tree with the keys 10, 20 .. up to 10 n.
func (w *world) tree(n int) int {
	w.t.Helper()
	root, e := w.s.Empty()
	if e != api.OK {
		w.t.Fatal(e)
	}
	for i := range n {
		root = w.insert(root, 10*(i+1), uint64(i+1))
	}
	return root
}

func (w *world) load(b int) api.TreeNode {
	w.t.Helper()
	n, e := w.s.Load(b)
	if e != api.OK {
		w.t.Fatalf("Load(%d): %d", b, e)
	}
	return n
}

// commit writes all and begins the next transaction.
func (w *world) commit(seq int) {
	w.t.Helper()
	if e := w.s.Write(); e != api.OK {
		w.t.Fatal(e)
	}
	w.blocks.Commit()
	w.data.Commit()
	w.s.SetSeq(seq)
}

// put writes a node to the device.
func (w *world) put(b int, n api.TreeNode) {
	words, e := treenode.Encode(n, b)
	if e != api.OK {
		w.t.Fatal(e)
	}
	block.WriteAll(w.x, b*api.BlockWords, words)
}

func entries(l ...int) []api.TreeEntry {
	var x []api.TreeEntry
	for i := 0; i < len(l); i += 2 {
		x = append(x, api.TreeEntry{Key: l[i], Value: uint64(l[i+1])})
	}
	return x
}

// P26.1
func TestLoad(t *testing.T) {
	w := newWorld(t, 4)
	for _, b := range []int{-1, 4, 1 << 40} {
		if n, e := w.s.Load(b); e != api.ErrRange || len(n.Entries) != 0 {
			t.Errorf("Load(%d): %d", b, e)
		}
	}
	if _, e := w.s.Load(1); e != api.ErrDamage {
		t.Error("a block without a node")
	}
	w.put(1, api.TreeNode{Seq: 5, Entries: entries(1, 2)})
	if n := w.load(1); n.Seq != 5 || !slices.Equal(n.Entries, entries(1, 2)) {
		t.Error("a node of the device")
	}
	w.put(2, api.TreeNode{})
	w.x.Write(2*16, 0)
	w.a.SetBad(0, 40, true)
	if _, e := w.s.Load(2); e != api.ErrBad {
		t.Error("the device comes ahead of damage")
	}
	b, _ := w.s.Empty()
	if b != 0 || w.load(0).Seq != 1 {
		t.Error("a changed node")
	}
	w.s.SetSeq(7)
	c, _ := w.s.Empty()
	if w.load(c).Seq != 7 {
		t.Error("SetSeq")
	}
	n := w.load(b)
	n.Entries = append(n.Entries, entries(1, 1)...)
	if len(w.load(b).Entries) != 0 {
		t.Error("Load shares memory")
	}
}

// P26.2
func TestLookup(t *testing.T) {
	w := newWorld(t, 40)
	root := w.tree(20)
	for key := range 220 {
		x, has, shared, e := w.s.Lookup(root, key)
		want := key%10 == 0 && key > 0 && key <= 200
		if e != api.OK || has != want || shared || has && (x.Key != key || x.Value != uint64(key/10)) || !has && x != (api.TreeEntry{}) {
			t.Fatalf("Lookup(%d): %v, %v, %v, %d", key, x, has, shared, e)
		}
	}
	leaf := int(w.load(root).Entries[1].Value)
	w.s.Share(leaf)
	if _, _, shared, _ := w.s.Lookup(root, 10); shared {
		t.Error("another leaf is shared")
	}
	if _, has, shared, _ := w.s.Lookup(root, w.load(leaf).Entries[0].Key+1); has || !shared {
		t.Error("the leaf in which the key would be is shared")
	}
	w.s.Share(root)
	if _, _, shared, _ := w.s.Lookup(root, 5); !shared {
		t.Error("the root is shared")
	}
	if _, _, _, e := w.s.Lookup(99, 5); e != api.ErrRange {
		t.Error("no root")
	}
	for i, n := range []api.TreeNode{{Level: 1, Seq: 9}, {Level: 1, Seq: 9, Entries: entries(0, 31)}, {Level: 1, Seq: 3, Entries: entries(0, 32)}, {Level: 1, Seq: 9, Entries: entries(0, 40)}, {Level: 1, Seq: 9, Entries: entries(0, 33)}, {Level: 1, Seq: 9, Entries: entries(0, 30)}, {Level: 3, Seq: 9, Entries: entries(0, 34)}, {Level: 1, Seq: 9, Entries: []api.TreeEntry{{Value: 1 << 63}}}} {
		w := newWorld(t, 40)
		w.put(30, n)
		w.put(31, api.TreeNode{Level: 1, Seq: 1, Entries: entries(0, 1)})
		w.put(32, api.TreeNode{Seq: 4, Entries: entries(0, 1)})
		w.put(34, api.TreeNode{Level: 2, Seq: 4})
		if x, has, shared, e := w.s.Lookup(30, 5); e != api.ErrDamage || has || shared || x != (api.TreeEntry{}) {
			t.Errorf("Lookup in a damaged tree %d: %d", i, e)
		}
		if l, e := w.s.Walk(30); e != api.ErrDamage || l != nil {
			t.Errorf("Walk of a damaged tree %d: %d", i, e)
		}
	}
}

// P26.3
func TestInsert(t *testing.T) {
	w := newWorld(t, 60)
	root := w.tree(7)
	if r, old, had, e := w.s.Insert(root, 30, 99, false); r != root || old != 3 || !had || e != api.OK {
		t.Error("a key that exists")
	}
	root = w.insert(root, 80, 8)
	n := w.load(root)
	if root != 2 || n.Level != 1 || !slices.Equal(n.Entries, entries(10, 0, 50, 1)) || len(w.load(0).Entries) != 4 || len(w.load(1).Entries) != 4 {
		t.Errorf("eight keys: %d, %v", root, n)
	}
	root = w.insert(root, 5, 1)
	if n := w.load(root); n.Entries[0].Key != 5 || w.load(0).Entries[0].Key != 5 {
		t.Error("the first key of an inner node")
	}
	w.commit(2)
	r := w.insert(root, 60, 6)
	if r != 3 || w.blocks.Count(root) != 0 || w.blocks.Count(1) != 0 || w.blocks.Count(0) != 1 || w.load(r).Seq != 2 || w.load(0).Seq != 1 {
		t.Error("committed nodes are copied, from the root on")
	}
	if c := w.load(r).Entries[1]; c.Value != 4 || c.Key != 50 {
		t.Errorf("the copy of the leaf: %v", c)
	}
	if _, _, _, e := w.s.Insert(r, -1, 0, false); e != api.ErrRange {
		t.Error("a key that is none")
	}
	if _, _, _, e := w.s.Insert(59, 1, 0, false); e != api.ErrDamage {
		t.Error("no tree")
	}
}

func TestInsertShared(t *testing.T) {
	w := newWorld(t, 60)
	root, _ := w.s.Empty()
	var e api.Errno
	for i := range 8 {
		d, _ := w.data.Alloc()
		root, _, _, e = w.s.Insert(root, i, uint64(d)|5<<24, true)
		if e != api.OK {
			t.Fatal(e)
		}
	}
	w.s.Share(root)
	r, old, had, e := w.s.Insert(root, 2, 40|6<<24, true)
	if e != api.OK || r == root || old != 2|5<<24 || !had {
		t.Fatal("Insert into a shared tree")
	}
	if w.blocks.Count(root) != 1 || w.blocks.Count(r) != 1 {
		t.Error("the counts of the roots")
	}
	a, b := w.load(root).Entries, w.load(r).Entries
	if w.blocks.Count(int(a[0].Value)) != 1 || w.blocks.Count(int(b[0].Value)) != 1 || a[1].Value != b[1].Value || w.blocks.Count(int(a[1].Value)) != 2 {
		t.Error("the counts of the leaves")
	}
	if !slices.Equal(w.data.Counts()[:9], []int{2, 2, 2, 2, 1, 1, 1, 1, 0}) {
		t.Errorf("the counts of the data: %v", w.data.Counts())
	}
	if x, _, shared, _ := w.s.Lookup(root, 2); x.Value != 2|5<<24 || shared {
		t.Error("the other tree")
	}
	if _, _, shared, _ := w.s.Lookup(root, 6); !shared {
		t.Error("a shared leaf")
	}
}

// P26.4
func TestDelete(t *testing.T) {
	w := newWorld(t, 60)
	root := w.tree(8)
	if r, old, had, e := w.s.Delete(root, 15, false); r != root || old != 0 || had || e != api.OK {
		t.Error("a key that does not exist")
	}
	if r, old, had, e := w.s.Delete(root, 10, false); r != root || old != 1 || !had || e != api.OK || w.load(root).Entries[0].Key != 10 {
		t.Error("a key that exists")
	}
	for key := 20; key <= 40; key += 10 {
		root = w.remove(root, key)
	}
	if root != 1 || w.load(root).Level != 0 || w.blocks.Count(0) != 0 || w.blocks.Count(2) != 0 || w.blocks.Free() != 59 {
		t.Error("the other leaf becomes the root")
	}
	for key := 50; key <= 80; key += 10 {
		root = w.remove(root, key)
	}
	if n := w.load(root); n.Level != 0 || len(n.Entries) != 0 {
		t.Error("a leaf without entries stays the root")
	}
	w = newWorld(t, 60)
	root = w.tree(8)
	w.commit(2)
	if _, _, had, _ := w.s.Delete(root, 11, false); had || len(w.s.Changed()) != 0 || len(w.blocks.Changed()) != 0 {
		t.Error("nothing is touched if the key does not exist")
	}
}

func TestDeleteShared(t *testing.T) {
	w := newWorld(t, 60)
	root := w.tree(8)
	w.s.Share(root)
	r := root
	for key := 10; key <= 40; key += 10 {
		r = w.remove(r, key)
	}
	l, e := w.s.Walk(root)
	if e != api.OK || len(l) != 8 || w.load(r).Level != 0 || r != int(w.load(root).Entries[1].Value) || w.blocks.Count(r) != 2 {
		t.Errorf("the leaf is the root of one tree and a leaf of the other one: %d, %v", r, w.load(root))
	}
	// An inner node with a single entry, shared with another tree, becomes the root: its child gets a reference of its own.
	w = newWorld(t, 60)
	leaf, _ := w.s.Empty()
	leaf = w.insert(leaf, 50, 5)
	other, _ := w.s.Empty()
	other = w.insert(other, 1, 1)
	mid1, _ := w.s.add(api.TreeNode{Level: 1, Entries: entries(1, other)})
	mid2, _ := w.s.add(api.TreeNode{Level: 1, Entries: entries(50, leaf)})
	root, _ = w.s.add(api.TreeNode{Level: 2, Entries: entries(1, mid1, 50, mid2)})
	w.s.Share(mid2)
	r = w.remove(root, 1)
	if r != leaf || w.blocks.Count(leaf) != 2 || w.blocks.Count(mid2) != 1 || w.blocks.Count(root) != 0 || w.blocks.Count(mid1) != 0 {
		t.Errorf("the root is %d; counts %v", r, w.blocks.Counts())
	}
}

// P26.5
func TestWalkShareDrop(t *testing.T) {
	w := newWorld(t, 60)
	root := w.tree(30)
	l, e := w.s.Walk(root)
	if e != api.OK || len(l) != 30 || !slices.IsSortedFunc(l, func(a, b api.TreeEntry) int { return a.Key - b.Key }) {
		t.Error("Walk")
	}
	if w.s.Share(root) != api.OK || w.blocks.Count(root) != 2 || w.s.Share(59) != api.ErrNone || w.s.Share(-1) != api.ErrRange {
		t.Error("Share")
	}
	free := w.blocks.Free()
	if w.s.Drop(root, false) != api.OK || w.blocks.Free() != free {
		t.Error("Drop of a shared tree")
	}
	if w.s.Drop(root, false) != api.OK || w.blocks.Free() != 60 || w.s.Drop(root, false) != api.ErrNone || w.s.Drop(60, false) != api.ErrRange {
		t.Error("Drop")
	}
	if l, e := w.s.Walk(-1); l != nil || e != api.ErrRange {
		t.Error("Walk of nothing")
	}
	root, _ = w.s.Empty()
	for i := range 10 {
		d, _ := w.data.Alloc()
		root, _, _, _ = w.s.Insert(root, i, uint64(d)|9<<24, true)
	}
	if w.s.Drop(root, true) != api.OK || w.data.Free() != 50 {
		t.Error("Drop of a tree that owns data")
	}
	root, _ = w.s.Empty()
	root, _, _, _ = w.s.Insert(root, 0, 49, true)
	if w.s.Drop(root, true) != api.ErrNone {
		t.Error("the error of the space map")
	}
}

// P26.6
func TestChangedWrite(t *testing.T) {
	w := newWorld(t, 60)
	root := w.tree(8)
	gone, _ := w.s.Empty()
	w.s.Drop(gone, false)
	if !slices.Equal(w.s.Changed(), []int{0, 1, 2}) {
		t.Errorf("Changed: %v", w.s.Changed())
	}
	if w.a.Writes() != 0 {
		t.Error("nothing is written ahead of Write")
	}
	w.a.Fuse(20)
	if w.s.Write() != api.ErrPower || w.a.Writes() != 19 {
		t.Error("the device's error")
	}
	w.a.Restart(slices.Repeat([]bool{true}, 19))
	first, _ := treenode.Encode(api.TreeNode{Seq: 1, Entries: entries(10, 1, 20, 2, 30, 3, 40, 4)}, 0)
	if l, _ := block.ReadAll(w.x, 0, 16); !slices.Equal(l, first) {
		t.Error("the words of the first node")
	}
	if len(w.s.Changed()) != 3 || w.s.Write() != api.OK || w.a.Writes() != 19+48 || len(w.s.Changed()) != 0 {
		t.Error("Write")
	}
	if l, e := w.s.Walk(root); e != api.OK || len(l) != 8 {
		t.Error("Walk behind Write")
	}
	w.blocks.Commit()
	w.insert(root, 1, 1)
	w.s.Forget()
	w.blocks.Rollback()
	if l, e := w.s.Walk(root); e != api.OK || len(l) != 8 || len(w.s.Changed()) != 0 {
		t.Error("Forget")
	}
}

// P26.7
func TestNoSpace(t *testing.T) {
	w := newWorld(t, 3)
	root := w.tree(8)
	if b, e := w.s.Empty(); b != 0 || e != api.ErrSpace {
		t.Error("Empty")
	}
	w.commit(2)
	if _, _, _, e := w.s.Insert(root, 1, 1, false); e != api.ErrSpace {
		t.Error("Insert")
	}
	if _, _, _, e := w.s.Delete(root, 10, false); e != api.ErrSpace {
		t.Error("Delete")
	}
	w = newWorld(t, 100)
	child, _ := w.s.add(api.TreeNode{Entries: entries(0, 0, 1, 0, 2, 0, 3, 0, 4, 0, 5, 0, 6, 0)})
	for level := 1; level <= api.MaxLevel; level++ {
		n := api.TreeNode{Level: level, Entries: entries(0, child)}
		for k := 1; k < 7; k++ {
			n.Entries = append(n.Entries, api.TreeEntry{Key: 1000 * k, Value: uint64(child)})
		}
		child, _ = w.s.add(n)
	}
	if _, _, _, e := w.s.Insert(child, 7, 7, false); e != api.ErrLimit {
		t.Errorf("a root of the greatest level: %d", e)
	}
}

// A store without data has no data blocks that a tree could own.
func TestNoData(t *testing.T) {
	w := newWorld(t, 10)
	s := New(w.x, w.blocks, nil, 1)
	root, _ := s.Empty()
	root, _, _, e := s.Insert(root, 1, 5, true)
	if e != api.OK || s.Drop(root, true) != api.ErrRange {
		t.Errorf("a tree that owns what does not exist: %d", e)
	}
}

// held is a tree with what it has to have.
type held struct {
	root int
	want map[int]uint64
}

// check looks at all trees and all counts.
func (w *world) check(l []*held) {
	w.t.Helper()
	refs := map[int]int{}
	data := map[int]int{}
	var visit func(b int)
	visit = func(b int) {
		refs[b]++
		if refs[b] > 1 {
			return
		}
		n := w.load(b)
		for _, x := range n.Entries {
			if n.Level > 0 {
				visit(int(x.Value))
			} else {
				data[int(x.Value&dataMask)]++
			}
		}
	}
	for _, h := range l {
		visit(h.root)
		got := map[int]uint64{}
		x, e := w.s.Walk(h.root)
		for _, y := range x {
			got[y.Key] = y.Value
		}
		if e != api.OK || !maps.Equal(got, h.want) {
			w.t.Fatalf("the tree at %d has %v, not %v (%d)", h.root, got, h.want, e)
		}
	}
	for b, n := range w.blocks.Counts() {
		if n != refs[b] {
			w.t.Fatalf("block %d has the count %d, and %d references", b, n, refs[b])
		}
	}
	for d, n := range w.data.Counts() {
		if n != data[d] {
			w.t.Fatalf("data block %d has the count %d, and %d references", d, n, data[d])
		}
	}
}

// P26.8
func TestForests(t *testing.T) {
	for seed := range 60 {
		r := rand.New(rand.NewSource(int64(seed)))
		w := newWorld(t, 400)
		root, _ := w.s.Empty()
		l := []*held{{root, map[int]uint64{}}}
		seq := 1
		for range 150 {
			h := l[r.Intn(len(l))]
			switch n := r.Intn(20); {
			case n == 0 && len(l) < 4:
				w.s.Share(h.root)
				l = append(l, &held{h.root, maps.Clone(h.want)})
			case n == 1 && len(l) > 1:
				w.s.Drop(h.root, true)
				l = slices.DeleteFunc(l, func(x *held) bool { return x == h })
			case n == 2:
				for _, b := range w.s.Changed() {
					if w.blocks.Was(b) > 0 {
						t.Fatalf("the committed block %d is written", b)
					}
				}
				seq++
				w.commit(seq)
			case n < 13:
				d, e := w.data.Alloc()
				if e != api.OK {
					continue
				}
				key := r.Intn(60)
				v := uint64(d) | uint64(seq)<<24
				root, old, had, e := w.s.Insert(h.root, key, v, true)
				if e != api.OK || had != (h.want[key] != 0 || hasKey(h.want, key)) {
					t.Fatalf("Insert: %d", e)
				}
				if had {
					w.data.Dec(int(old & dataMask))
				}
				h.root, h.want[key] = root, v
			default:
				key := r.Intn(60)
				root, old, had, e := w.s.Delete(h.root, key, true)
				if e != api.OK || had != hasKey(h.want, key) || old != h.want[key] {
					t.Fatalf("Delete: %d", e)
				}
				if had {
					w.data.Dec(int(old & dataMask))
				}
				h.root = root
				delete(h.want, key)
			}
			w.check(l)
		}
	}
}

func hasKey(m map[int]uint64, key int) bool {
	_, is := m[key]
	return is
}
