package treenode

import (
	"math"
	"math/rand"
	"slices"
	"testing"

	"volumegroup/api"
	"volumegroup/checksum"
)

func node(level, seq int, l ...int) api.TreeNode {
	n := api.TreeNode{Level: level, Seq: seq}
	for i := 0; i < len(l); i += 2 {
		n.Entries = append(n.Entries, api.TreeEntry{Key: l[i], Value: uint64(l[i+1])})
	}
	return n
}

func same(a, b api.TreeNode) bool {
	return a.Level == b.Level && a.Seq == b.Seq && slices.Equal(a.Entries, b.Entries)
}

// wide is a node with n entries.
func wide(n int) api.TreeNode {
	x := api.TreeNode{}
	for i := range n {
		x.Entries = append(x.Entries, api.TreeEntry{Key: 2 * i, Value: uint64(i)})
	}
	return x
}

// P25.1
func TestHeaderSeal(t *testing.T) {
	if h := Header(2, 3, 4, 5); h != 2|3<<4|4<<8|5<<12|0x4D54<<48 {
		t.Errorf("Header is %#x", h)
	}
	if h := Header(-1, 16, 17, 1<<20+7); h != 15|0<<4|1<<8|7<<12|0x4D54<<48 {
		t.Errorf("Header is %#x", h)
	}
	w := []uint64{Header(1, 0, 0, 9), 5, 6}
	s := Seal(w)
	l := append(slices.Clone(w), make([]uint64, 13)...)
	sum := uint64(checksum.Short(checksum.Words(l)))
	l[0] |= sum << 32
	if !slices.Equal(s, l) || w[0] != Header(1, 0, 0, 9) {
		t.Errorf("Seal is %x", s)
	}
	if !slices.Equal(Seal(s), s) || !slices.Equal(Seal(append(s, 7)), s) || len(Seal(nil)) != 16 {
		t.Error("Seal of sealed words")
	}
	change := func(i int, x uint64) []uint64 {
		c := slices.Clone(s)
		c[i] ^= x
		return c
	}
	for i, c := range []struct {
		words       []uint64
		kind, block int
		want        api.Errno
	}{
		{s, 1, 9, api.OK}, {s[:15], 1, 9, api.ErrSize}, {append(s, 0), 1, 9, api.ErrSize}, {nil, 1, 9, api.ErrSize}, {s, 2, 9, api.ErrForm}, {s, 17, 9, api.ErrForm}, {change(0, 1<<63), 1, 9, api.ErrForm}, {change(0, 1<<32), 1, 9, api.ErrSum}, {change(3, 1), 1, 9, api.ErrSum}, {change(0, 1<<12), 1, 8, api.ErrSum}, {s, 1, 8, api.ErrDamage}, {s, 1, -1, api.ErrDamage}, {s, 1, 9 + 1<<20, api.ErrDamage},
	} {
		if e := Sealed(c.words, c.kind, c.block); e != c.want {
			t.Errorf("Sealed %d: %d", i, e)
		}
	}
}

// P25.2
func TestValidEncodeDecode(t *testing.T) {
	for i, c := range []struct {
		n    api.TreeNode
		want api.Errno
	}{
		{node(0, 0), api.OK}, {node(8, api.MaxThinSeq, 0, 1, api.MaxKey, 2), api.OK}, {wide(7), api.OK}, {node(-1, 0), api.ErrRange}, {node(9, 0), api.ErrRange}, {node(0, -1), api.ErrRange}, {node(0, api.MaxThinSeq+1), api.ErrRange},
		{wide(8), api.ErrLimit}, {node(0, 0, 5, 1, 5, 2), api.ErrForm}, {node(0, 0, 5, 1, 4, 2), api.ErrForm}, {node(0, 0, -1, 1), api.ErrForm}, {node(0, 0, api.MaxKey+1, 1), api.ErrForm},
	} {
		if e := Valid(c.n); e != c.want {
			t.Errorf("Valid %d: %d", i, e)
		}
		w, e := Encode(c.n, 5)
		if e != c.want || (w == nil) != (e != api.OK) {
			t.Errorf("Encode %d: %d", i, e)
		}
		if n, e := Decode(w, 5); c.want == api.OK && (e != api.OK || !same(n, c.n)) {
			t.Errorf("Decode %d: %v, %d", i, n, e)
		}
	}
	w, e := Encode(node(0, 3, 5, 7), 3)
	if e != api.OK || w[1] != 5 || w[8] != 7 || w[15] != 3 || w[0]&^(0xFFFF<<32) != Header(2, 0, 1, 3) {
		t.Errorf("Encode: %x", w)
	}
	for _, b := range []int{-1, api.MaxBlocks} {
		if _, e := Encode(node(0, 0), b); e != api.ErrRange {
			t.Errorf("Encode in block %d", b)
		}
	}
	if _, e := Encode(node(9, 0), -1); e != api.ErrRange {
		t.Error("two errors")
	}
	for i, c := range []struct {
		at   int
		x    uint64
		want api.Errno
	}{{1, 1 << 24, api.ErrDamage}, {2, 1, api.ErrDamage}, {9, 1, api.ErrDamage}, {7, 1, api.ErrDamage}, {14, 1, api.ErrDamage}, {15, 1 << 24, api.ErrDamage}, {15, 1 << 63, api.ErrDamage}, {0, 9 << 4, api.ErrDamage}, {0, 1 << 11, api.ErrDamage}, {0, 3, api.ErrForm}, {0, 1 << 12, api.ErrDamage}, {1, 1 << 63, api.ErrDamage}} {
		d := slices.Clone(w)
		d[c.at] ^= c.x
		if n, e := Decode(Seal(d), 3); e != c.want || !same(n, api.TreeNode{}) {
			t.Errorf("Decode of damaged words %d: %d", i, e)
		}
	}
	if _, e := Decode(w[:3], 3); e != api.ErrSize {
		t.Error("Decode of too few words")
	}
	two, _ := Encode(node(0, 0, 5, 1, 9, 1), 3)
	two[2] = 5
	if _, e := Decode(Seal(two), 3); e != api.ErrDamage {
		t.Error("keys that do not ascend")
	}
	two[3] = 0
	if _, e := Decode(two, 3); e != api.ErrSum {
		t.Error("a wrong checksum")
	}
}

// P25.3
func TestFind(t *testing.T) {
	n := node(0, 0, 3, 1, 7, 2)
	for key, want := range map[int]int{2: -1, 3: 0, 4: 0, 6: 0, 7: 1, 8: 1, math.MaxInt: 1, math.MinInt: -1} {
		if i, is := Find(n, key); i != want || is != (key == 3 || key == 7) {
			t.Errorf("Find(%d) is %d, %v", key, i, is)
		}
	}
	if i, is := Find(api.TreeNode{}, 5); i != -1 || is {
		t.Error("Find in nothing")
	}
}

// P25.4
func TestPutRemoveSplit(t *testing.T) {
	n := node(2, 9, 3, 1, 7, 2)
	for _, c := range []struct {
		key  int
		want api.TreeNode
	}{{0, node(2, 9, 0, 5, 3, 1, 7, 2)}, {3, node(2, 9, 3, 5, 7, 2)}, {4, node(2, 9, 3, 1, 4, 5, 7, 2)}, {api.MaxKey, node(2, 9, 3, 1, 7, 2, api.MaxKey, 5)}} {
		if m, e := Put(n, c.key, 5); e != api.OK || !same(m, c.want) || !same(n, node(2, 9, 3, 1, 7, 2)) {
			t.Errorf("Put(%d): %v, %d", c.key, m, e)
		}
	}
	for i, c := range []struct {
		n    api.TreeNode
		key  int
		want api.Errno
	}{{n, -1, api.ErrRange}, {n, api.MaxKey + 1, api.ErrRange}, {wide(9), -1, api.ErrLimit}, {wide(8), 1, api.OK}, {wide(7), 1, api.OK}} {
		if m, e := Put(c.n, c.key, 5); e != c.want || e == api.OK && len(m.Entries) != len(c.n.Entries)+1 || e != api.OK && !same(m, api.TreeNode{}) {
			t.Errorf("Put %d: %d", i, e)
		}
	}
	if m, e := Remove(n, 0); e != api.OK || !same(m, node(2, 9, 7, 2)) || !same(n, node(2, 9, 3, 1, 7, 2)) {
		t.Error("Remove")
	}
	for _, i := range []int{-1, 2, math.MaxInt} {
		if m, e := Remove(n, i); e != api.ErrRange || !same(m, api.TreeNode{}) {
			t.Errorf("Remove(%d)", i)
		}
	}
	for k := range 9 {
		x := wide(k)
		x.Level, x.Seq = 3, 4
		a, b, e := Split(x)
		if e != api.OK || len(a.Entries) != k/2 || !slices.Equal(append(a.Entries, b.Entries...), x.Entries) || a.Level != 3 || b.Level != 3 || a.Seq != 4 || b.Seq != 4 {
			t.Errorf("Split of %d entries", k)
		}
	}
	if a, b, e := Split(wide(9)); e != api.ErrLimit || !same(a, api.TreeNode{}) || !same(b, api.TreeNode{}) {
		t.Error("Split of 9 entries")
	}
}

// P25.5
func TestChangedWords(t *testing.T) {
	r := rand.New(rand.NewSource(1))
	for range 300 {
		n := api.TreeNode{Level: r.Intn(9), Seq: r.Intn(1000)}
		key := -1
		for range r.Intn(8) {
			key += 1 + r.Intn(100)
			n.Entries = append(n.Entries, api.TreeEntry{Key: key, Value: r.Uint64()})
		}
		w, _ := Encode(n, 77)
		if m, e := Decode(w, 77); e != api.OK || !same(m, n) {
			t.Fatalf("Decode of Encode of %v", n)
		}
		i := r.Intn(16)
		x := uint64(1) << r.Intn(64)
		if i == 0 && x>>32 > 0 && x>>48 == 0 {
			continue
		}
		w[i] ^= x
		if _, e := Decode(w, 77); e == api.OK {
			t.Fatalf("word %d changed by %#x is accepted", i, x)
		}
	}
}
