package thinmeta

import (
	"maps"
	"math"
	"math/rand"
	"slices"
	"testing"

	"volumegroup/api"
	"volumegroup/block"
	"volumegroup/checksum"
	"volumegroup/disk"
	"volumegroup/thinwords"
	"volumegroup/treenode"
)

func device(t *testing.T, words int) (*disk.Array, block.Device) {
	t.Helper()
	a, e := disk.New([]int{words})
	if e != api.OK {
		t.Fatal(e)
	}
	x, _ := block.Span(a, 0, 0, words)
	return a, x
}

func open1(t *testing.T, x block.Device) *Meta {
	t.Helper()
	m, e := Open(x)
	if e != api.OK {
		t.Fatalf("Open: %d", e)
	}
	return m
}

// fresh is the metadata of a pool with 64 data blocks, with some room.
func fresh(t *testing.T) (*disk.Array, block.Device, *Meta) {
	t.Helper()
	a, x := device(t, Size(64)+200*api.BlockWords)
	if e := Format(x, 64, 2); e != api.OK {
		t.Fatal(e)
	}
	return a, x, open1(t, x)
}

func is(t *testing.T, e, want api.Errno, what string) {
	t.Helper()
	if e != want {
		t.Errorf("%s: %d, not %d", what, e, want)
	}
}

// mapNew maps a block to a new data block.
func mapNew(t *testing.T, m *Meta, id, b int) int {
	t.Helper()
	d, e := m.Alloc()
	is(t, e, api.OK, "Alloc")
	is(t, m.Map(id, b, d), api.OK, "Map")
	return d
}

func image(t *testing.T, a *disk.Array) []uint64 {
	l, _ := a.Image(0)
	return l
}

// sumOf is the checksum of words, by the chapter's words.
func sumOf(l ...uint64) uint64 { return uint64(checksum.Short(checksum.Words(l))) }

func commitOf(root, seq uint64) uint64 {
	w := root | seq<<20 | 9<<60
	return w | sumOf(w)<<44
}

// P27.1
func TestFormat(t *testing.T) {
	for data, want := range map[int]int{64: 816, 1: 816, 65: 53 * 16, 0: 0, -1: 0, api.MaxData: (513 + 48) * 16, api.MaxData + 1: 0, math.MaxInt: 0} {
		if n := Size(data); n != want {
			t.Errorf("Size(%d) is %d", data, n)
		}
	}
	a, x := device(t, 900)
	for i, c := range []struct {
		data, chunk int
		want        api.Errno
	}{{0, 1, api.ErrRange}, {api.MaxData + 1, 1, api.ErrRange}, {1, 0, api.ErrRange}, {1, 65, api.ErrRange}, {300, 0, api.ErrRange}, {300, 1, api.ErrSize}} {
		if e := Format(x, c.data, c.chunk); e != c.want || a.Writes() != 0 {
			t.Errorf("Format %d: %d", i, e)
		}
	}
	for i := range 900 {
		x.Write(i, 77)
	}
	is(t, Format(x, 100, 64), api.OK, "Format")
	l := image(t, a)
	if !slices.Equal(l[16:48], make([]uint64, 32)) || a.Unflushed() != 0 || l[0] != commitOf(6, 0) || l[48] != 77 {
		t.Error("the commit word and the area")
	}
	leaf, _ := treenode.Encode(api.TreeNode{}, 5)
	root := treenode.Seal([]uint64{treenode.Header(api.BlockRoot, 0, 0, 6), 0, 5, 0, 100, 64, 0, sumOf(make([]uint64, 32)...)})
	if !slices.Equal(l[80:96], leaf) || !slices.Equal(l[96:112], root) {
		t.Error("the device tree and the root block")
	}
	a.Fuse(1)
	is(t, Format(x, 100, 64), api.ErrPower, "the device's error")
}

// TestFormatOrder lets the power fail in Format: there is no pool ahead of the commit word.
func TestFormatOrder(t *testing.T) {
	for n := 1; n < 60; n++ {
		a, x := device(t, 900)
		Format(x, 64, 2)
		a.Fuse(n)
		if Format(x, 64, 2) == api.OK {
			break
		}
		a.Restart(slices.Repeat([]bool{true}, a.Unflushed()))
		if _, e := Open(x); n > 1 && e != api.ErrForm {
			t.Errorf("fuse %d: %d", n, e)
		}
	}
}

// P27.2
func TestOpenErrors(t *testing.T) {
	a, x, m := fresh(t)
	if m.Seq() != 0 || m.Time() != 0 || m.Data() != 64 || m.Chunk() != 2 || m.FreeData() != 64 || m.FreeMeta() != 200+48-2 || len(m.Devices()) != 0 {
		t.Error("a pool without devices")
	}
	m.Create(1)
	for b := range 9 {
		mapNew(t, m, 1, b)
	}
	m.Create(2)
	is(t, m.Commit(), api.OK, "Commit")
	good := image(t, a)
	b := int(good[0] & 0xFFFFF)
	area := 1 + int(good[b*16+thinwords.RootArea])
	tree := int(good[b*16+thinwords.RootTree])
	// reseal changes a word of a block and seals it.
	reseal := func(l []uint64, b, i int, w uint64) {
		l[b*16+i] = w
		copy(l[b*16:], treenode.Seal(l[b*16:b*16+16]))
	}
	leaf := func(l []uint64, id int) int {
		n, _ := treenode.Decode(l[tree*16:tree*16+16], tree)
		return int(n.Entries[id-1].Value & 0xFFFFF)
	}
	root1 := leaf(good, 1)
	for i, c := range []struct {
		f    func(l []uint64)
		want api.Errno
	}{
		{func(l []uint64) {}, api.OK}, {func(l []uint64) { l[0] ^= 1 << 63 }, api.ErrForm}, {func(l []uint64) { l[0] ^= 1 << 50 }, api.ErrForm}, {func(l []uint64) { l[0]++ }, api.ErrForm}, {func(l []uint64) { l[0] = 0 }, api.ErrForm},
		{func(l []uint64) { l[0] = commitOf(uint64(b), 2) }, api.ErrDamage}, {func(l []uint64) { l[0] = commitOf(1<<20-1, 1) }, api.ErrDamage}, {func(l []uint64) { l[0] = commitOf(2, 1) }, api.ErrDamage}, {func(l []uint64) { l[0] = commitOf(uint64(tree), 1) }, api.ErrDamage},
		{func(l []uint64) { l[b*16+3]++ }, api.ErrDamage}, {func(l []uint64) { reseal(l, b, thinwords.RootData, 0) }, api.ErrDamage}, {func(l []uint64) { reseal(l, b, thinwords.RootData, 16385) }, api.ErrDamage}, {func(l []uint64) { reseal(l, b, thinwords.RootData, 16384) }, api.ErrDamage}, {func(l []uint64) { reseal(l, b, thinwords.RootChunk, 0) }, api.ErrDamage}, {func(l []uint64) { reseal(l, b, thinwords.RootChunk, 65) }, api.ErrDamage},
		{func(l []uint64) { reseal(l, b, thinwords.RootTime, 1<<20) }, api.ErrDamage}, {func(l []uint64) { reseal(l, b, thinwords.RootArea, 2) }, api.ErrDamage}, {func(l []uint64) { reseal(l, b, 8, 1) }, api.ErrDamage}, {func(l []uint64) { reseal(l, b, 15, 1) }, api.ErrDamage}, {func(l []uint64) { reseal(l, b, thinwords.RootTree, 2) }, api.ErrDamage}, {func(l []uint64) { reseal(l, b, thinwords.RootTree, 5000) }, api.ErrDamage}, {func(l []uint64) { reseal(l, b, thinwords.RootTree, uint64(b)) }, api.ErrDamage}, {func(l []uint64) { reseal(l, b, 0, l[b*16]|1<<4) }, api.ErrDamage}, {func(l []uint64) { reseal(l, b, thinwords.RootSeq, 9) }, api.ErrDamage},
		{func(l []uint64) { l[area*16] ^= 1 }, api.ErrDamage}, {func(l []uint64) { reseal(l, b, thinwords.RootSum, l[b*16+thinwords.RootSum]^1) }, api.ErrDamage},
		{func(l []uint64) { l[tree*16] ^= 1 }, api.ErrDamage}, {func(l []uint64) { reseal(l, tree, 1, 70000) }, api.ErrDamage}, {func(l []uint64) { reseal(l, tree, 2, 1) }, api.ErrDamage}, {func(l []uint64) { reseal(l, tree, 8, l[tree*16+8]|1<<20) }, api.ErrDamage}, {func(l []uint64) { reseal(l, tree, 8, l[tree*16+8]+1<<40) }, api.ErrDamage}, {func(l []uint64) { reseal(l, tree, 15, 2) }, api.ErrDamage},
		{func(l []uint64) { reseal(l, tree, 8, uint64(tree)|9<<40) }, api.ErrDamage}, {func(l []uint64) { reseal(l, tree, 8, uint64(b)|9<<40) }, api.ErrDamage}, {func(l []uint64) { reseal(l, tree, 8, 1|9<<40) }, api.ErrDamage}, {func(l []uint64) { reseal(l, tree, 9, uint64(root1)|9<<40) }, api.OK}, {func(l []uint64) { reseal(l, tree, 9, uint64(root1)|8<<40) }, api.ErrDamage},
		{func(l []uint64) { reseal(l, root1, 15, 9) }, api.ErrDamage}, {func(l []uint64) { reseal(l, root1, 1, 3) }, api.ErrDamage}, {func(l []uint64) { reseal(l, root1, 2, 3) }, api.ErrDamage}, {func(l []uint64) { reseal(l, root1, 9, l[root1*16+8]) }, api.ErrDamage},
		{func(l []uint64) { leaf0 := int(l[root1*16+8]); reseal(l, leaf0, 8, 64) }, api.ErrDamage}, {func(l []uint64) { leaf0 := int(l[root1*16+8]); reseal(l, leaf0, 8, 1<<24) }, api.ErrDamage}, {func(l []uint64) { leaf0 := int(l[root1*16+8]); reseal(l, leaf0, 8, l[leaf0*16+8]|1<<44) }, api.OK}, {func(l []uint64) { leaf0 := int(l[root1*16+8]); reseal(l, leaf0, 15, 99) }, api.ErrDamage},
		{func(l []uint64) {
			n, _ := treenode.Decode(l[root1*16:root1*16+16], root1)
			n.Entries = n.Entries[:1]
			w, _ := treenode.Encode(n, root1)
			copy(l[root1*16:], w)
		}, api.ErrDamage},
	} {
		l := slices.Clone(good)
		c.f(l)
		a.Load(0, l)
		if m, e := Open(x); e != c.want || (m == nil) != (e != api.OK) {
			t.Errorf("Open %d: %d, not %d", i, e, c.want)
		}
	}
	a.Load(0, good)
	short, _ := block.Window(x, 0, Size(64)-1)
	if _, e := Open(short); e != api.ErrDamage {
		t.Error("a device that is too small")
	}
	if _, e := Open(block.Zero(0)); e != api.ErrRange {
		t.Error("a device without words")
	}
	a.SetBad(0, tree*16+3, true)
	if _, e := Open(x); e != api.ErrBad {
		t.Error("the device's error")
	}
	a.SetBad(0, tree*16+3, false)
	x.Write(5, 1)
	a.SetMissing(0, true)
	if _, e := Open(x); e != api.ErrMissing {
		t.Error("Open flushes")
	}
	a.SetMissing(0, false)
	if open1(t, x); a.Unflushed() != 0 {
		t.Error("Open flushes")
	}
}

// P27.3, P27.4
func TestOperations(t *testing.T) {
	_, _, m := fresh(t)
	d0, _ := m.Alloc()
	d1, _ := m.Alloc()
	if d0 != 0 || d1 != 1 || m.FreeData() != 62 {
		t.Error("Alloc")
	}
	for i, c := range []struct{ got, want api.Errno }{
		{m.Create(-1), api.ErrRange}, {m.Create(65536), api.ErrRange}, {m.Create(65535), api.OK}, {m.Create(65535), api.ErrUse}, {m.Create(0), api.OK}, {m.Snap(0, 5), api.ErrUse}, {m.Snap(1, 5), api.ErrDevice}, {m.Snap(1, -1), api.ErrRange}, {m.Snap(-1, 0), api.ErrRange}, {m.Snap(1, 65536), api.ErrRange},
		{m.Delete(5), api.ErrDevice}, {m.Delete(-1), api.ErrRange}, {m.Map(5, 0, 9), api.ErrDevice}, {m.Map(0, -1, 0), api.ErrRange}, {m.Map(0, api.MaxKey+1, 0), api.ErrRange}, {m.Map(0, 0, 64), api.ErrRange}, {m.Map(0, 0, -1), api.ErrRange}, {m.Map(-1, 0, 0), api.ErrRange}, {m.Map(0, 0, 2), api.ErrNone}, {m.Map(0, api.MaxKey, 0), api.OK}, {m.Map(0, 1, 0), api.ErrNone},
		{m.Unmap(0, 1), api.ErrNone}, {m.Unmap(5, 1), api.ErrDevice}, {m.Unmap(0, -1), api.ErrRange}, {m.Release(0), api.ErrNone}, {m.Release(64), api.ErrRange}, {m.Release(-1), api.ErrRange}, {m.Release(1), api.OK}, {m.Release(1), api.ErrNone},
	} {
		if c.got != c.want {
			t.Errorf("call %d: %d, not %d", i, c.got, c.want)
		}
	}
	if !slices.Equal(m.Devices(), []int{0, 65535}) || m.Time() != 0 || m.Seq() != 0 {
		t.Error("the devices")
	}
	is(t, m.Snap(7, 0), api.OK, "Snap")
	if n, e := m.Mapped(7); n != 1 || e != api.OK || m.Time() != 1 {
		t.Error("a snapshot")
	}
	d := mapNew(t, m, 7, api.MaxKey)
	if l, e := m.Mappings(7); e != api.OK || !slices.Equal(l, []api.ThinMapping{{Block: api.MaxKey, Data: d, Time: 1}}) {
		t.Errorf("Mappings: %v", l)
	}
	if l, e := m.Mappings(0); e != api.OK || !slices.Equal(l, []api.ThinMapping{{Block: api.MaxKey, Data: 0, Time: 0}}) {
		t.Errorf("Mappings: %v", l)
	}
	mapNew(t, m, 7, 3)
	is(t, m.Unmap(7, api.MaxKey), api.OK, "Unmap")
	if n, _ := m.Mapped(7); n != 1 {
		t.Error("the number of mappings")
	}
	if _, e := m.Mapped(9); e != api.ErrDevice {
		t.Error("Mapped of no device")
	}
	if _, e := m.Mapped(-1); e != api.ErrDevice {
		t.Error("Mapped of no device")
	}
	if _, e := m.Mappings(9); e != api.ErrDevice {
		t.Error("Mappings of no device")
	}
	is(t, m.Delete(7), api.OK, "Delete")
	is(t, m.Delete(7), api.ErrDevice, "Delete again")
	for id := 1; len(m.Devices()) < api.MaxThin; id++ {
		is(t, m.Create(id), api.OK, "Create")
	}
	is(t, m.Create(500), api.ErrLimit, "too many devices")
	is(t, m.Snap(500, 0), api.ErrLimit, "too many devices")
	for {
		if _, e := m.Alloc(); e != api.OK {
			is(t, e, api.ErrSpace, "Alloc without space")
			break
		}
	}
}

func TestRoom(t *testing.T) {
	_, x := device(t, Size(64))
	Format(x, 64, 1)
	m := open1(t, x)
	m.Create(1)
	d, _ := m.Alloc()
	for b := 0; m.FreeMeta() >= api.MetaReserve; b++ {
		is(t, m.Map(1, 7*b, d), api.OK, "Map")
		d, _ = m.Alloc()
	}
	for i, c := range []struct{ got, want api.Errno }{{m.Create(2), api.ErrRoom}, {m.Create(1), api.ErrUse}, {m.Snap(2, 1), api.ErrRoom}, {m.Snap(2, 9), api.ErrDevice}, {m.Map(1, 1, d), api.ErrRoom}, {m.Map(1, 1, 63), api.ErrNone}, {m.Unmap(1, 0), api.OK}, {m.Unmap(1, 0), api.ErrNone}, {m.Commit(), api.OK}} {
		if c.got != c.want {
			t.Errorf("call %d: %d, not %d", i, c.got, c.want)
		}
	}
	for id := 100; m.FreeMeta() >= api.MetaReserve; id++ {
		is(t, m.Create(id), api.OK, "Create")
	}
	for b := 1; m.FreeMeta() >= api.MetaSpare; b++ {
		if n, e := m.Mapped(1); n == 0 || e != api.OK {
			return
		}
		is(t, m.Unmap(1, 7*b), api.OK, "Unmap")
	}
	if n, _ := m.Mapped(1); n > 0 {
		l, _ := m.Mappings(1)
		is(t, m.Unmap(1, l[0].Block), api.ErrRoom, "Unmap")
		is(t, m.Delete(1), api.ErrRoom, "Delete")
		is(t, m.Delete(77), api.ErrDevice, "Delete of no device")
	}
}

// P27.3
func TestBroken(t *testing.T) {
	a, _, m := fresh(t)
	m.Create(1)
	is(t, m.Commit(), api.OK, "Commit")
	a.SetMissing(0, true)
	d, _ := m.Alloc()
	is(t, m.Map(1, 0, d), api.ErrMissing, "Map")
	broken := func() {
		t.Helper()
		_, e1 := m.Lookup(1, 0)
		_, e2 := m.Mappings(1)
		_, e3 := m.Alloc()
		_, e4 := m.Mapped(1)
		for i, e := range []api.Errno{m.Create(-1), m.Snap(-1, -1), m.Delete(-1), m.Map(-1, 0, 0), m.Unmap(-1, 0), m.Release(-1), m.Commit(), e1, e2, e3, e4} {
			if e != api.ErrState {
				t.Errorf("operation %d of broken metadata: %d", i, e)
			}
		}
		if m.Seq() != 0 || m.Time() != 0 || m.Data() != 0 || m.Chunk() != 0 || m.FreeData() != 0 || m.FreeMeta() != 0 || len(m.Devices()) != 0 {
			t.Error("numbers of broken metadata")
		}
	}
	broken()
	is(t, m.Abort(), api.ErrMissing, "Abort")
	broken()
	a.SetMissing(0, false)
	is(t, m.Abort(), api.OK, "Abort")
	if m.Seq() != 1 || !slices.Equal(m.Devices(), []int{1}) || m.FreeData() != 64 {
		t.Error("behind Abort")
	}
	m.Create(2)
	is(t, m.Abort(), api.OK, "Abort of a transaction")
	if !slices.Equal(m.Devices(), []int{1}) {
		t.Error("Abort takes changes back")
	}
	a.SetMissing(0, true)
	if _, e := m.Lookup(1, 0); e != api.ErrMissing {
		t.Error("Lookup")
	}
	a.SetMissing(0, false)
	if _, e := m.Lookup(1, 0); e != api.OK {
		t.Error("an error of Lookup does not break the metadata")
	}
	a.SetMissing(0, true)
	is(t, m.Commit(), api.ErrMissing, "Commit without changes")
	broken()
	a.SetMissing(0, false)
	m.Abort()
	a.SetMissing(0, true)
	is(t, m.Unmap(1, 0), api.ErrMissing, "Unmap")
	broken()
}

// P27.5
func TestLookup(t *testing.T) {
	_, _, m := fresh(t)
	m.Create(1)
	for i, c := range []struct {
		id, b int
		want  api.Errno
	}{{-1, 0, api.ErrRange}, {65536, 0, api.ErrRange}, {1, -1, api.ErrRange}, {1, api.MaxKey + 1, api.ErrRange}, {2, 0, api.ErrDevice}, {1, 0, api.OK}} {
		if p, e := m.Lookup(c.id, c.b); e != c.want || p != (api.Mapping{}) {
			t.Errorf("Lookup %d: %v, %d", i, p, e)
		}
	}
	expect := func(id int, b int, want api.Mapping) {
		t.Helper()
		if p, e := m.Lookup(id, b); e != api.OK || p != want {
			t.Errorf("Lookup(%d, %d): %v, %d, not %v", id, b, p, e, want)
		}
	}
	d := mapNew(t, m, 1, 5)
	expect(1, 5, api.Mapping{Mapped: true, Data: d})
	m.Commit()
	expect(1, 5, api.Mapping{Mapped: true, Data: d})
	m.Snap(2, 1)
	expect(1, 5, api.Mapping{Mapped: true, Data: d, Shared: true})
	expect(2, 5, api.Mapping{Mapped: true, Data: d, Shared: true})
	m.Commit()
	m.Delete(2)
	expect(1, 5, api.Mapping{Mapped: true, Data: d, Shared: true})
	m.Commit()
	expect(1, 5, api.Mapping{Mapped: true, Data: d})
	// The data block is at another block of the device in the last commit, or at another device.
	m.Snap(3, 1)
	m.Unmap(1, 5)
	expect(3, 5, api.Mapping{Mapped: true, Data: d, Shared: true})
	m.Commit()
	expect(3, 5, api.Mapping{Mapped: true, Data: d})
	// A tree with several leaves, of which a snapshot has changed one.
	m.Create(4)
	for b := range 8 {
		mapNew(t, m, 4, b)
	}
	m.Commit()
	m.Snap(5, 4)
	e := mapNew(t, m, 5, 0)
	expect(5, 0, api.Mapping{Mapped: true, Data: e, Time: 3})
	if p, _ := m.Lookup(5, 1); !p.Shared {
		t.Error("data of a leaf that was copied")
	}
	if p, _ := m.Lookup(4, 0); p.Shared {
		t.Error("data that only the origin has")
	}
	m.Commit()
	if p, _ := m.Lookup(4, 0); p.Shared {
		t.Error("data that only the origin has")
	}
	if p, _ := m.Lookup(5, 7); !p.Shared {
		t.Error("a shared leaf")
	}
}

// P27.6
func TestCommit(t *testing.T) {
	a, x, m := fresh(t)
	x.Write(5, 1)
	n := a.Writes()
	if m.Commit() != api.OK || a.Writes() != n || a.Unflushed() != 0 || m.Seq() != 0 {
		t.Error("nothing has changed")
	}
	m.Create(1)
	d := mapNew(t, m, 1, 9)
	m.Alloc()
	if m.FreeData() != 62 {
		t.Error("pending")
	}
	before := image(t, a)
	is(t, m.Commit(), api.OK, "Commit")
	after := image(t, a)
	root := int(after[0] & 0xFFFFF)
	if after[0] != commitOf(uint64(root), 1) || m.Seq() != 1 || m.FreeData() != 63 || after[32] != 1 || !slices.Equal(after[16:32], before[16:32]) {
		t.Error("the commit word and the area")
	}
	if after[root*16+thinwords.RootArea] != 1 || after[root*16+thinwords.RootSum] != sumOf(after[32:48]...) || after[root*16+thinwords.RootSeq] != 1 {
		t.Error("the root block")
	}
	old := int(before[0] & 0xFFFFF)
	if !slices.Equal(after[old*16:old*16+16], before[old*16:old*16+16]) {
		t.Error("the old root block")
	}
	m = open1(t, x)
	if p, e := m.Lookup(1, 9); e != api.OK || p.Data != d {
		t.Error("Open behind Commit")
	}
	e, _ := m.Alloc()
	m.Release(e)
	is(t, m.Commit(), api.OK, "Commit of nothing but Alloc and Release")
	if m.Seq() != 2 {
		t.Error("Alloc and Release are changes")
	}
}

func TestLastSeq(t *testing.T) {
	a, x, m := fresh(t)
	m.Create(1)
	m.Commit()
	l := image(t, a)
	b := int(l[0] & 0xFFFFF)
	l[b*16+thinwords.RootSeq] = api.MaxThinSeq
	copy(l[b*16:], treenode.Seal(l[b*16:b*16+16]))
	l[0] = commitOf(uint64(b), api.MaxThinSeq)
	a.Load(0, l)
	m = open1(t, x)
	is(t, m.Commit(), api.OK, "Commit without changes")
	m.Create(2)
	is(t, m.Commit(), api.ErrLimit, "Commit")
	if !slices.Equal(m.Devices(), []int{1, 2}) {
		t.Error("ErrLimit does not break the metadata")
	}
	l[b*16+thinwords.RootTime] = api.MaxThinTime
	copy(l[b*16:], treenode.Seal(l[b*16:b*16+16]))
	a.Load(0, l)
	m = open1(t, x)
	is(t, m.Snap(2, 1), api.ErrLimit, "the time")
	is(t, m.Create(2), api.OK, "Create needs no time")
}

// guard refuses writes to blocks that the last commit needs.
type guard struct {
	block.Device
	t      *testing.T
	needed map[int]bool
}

func (g *guard) Write(at int, v uint64) api.Errno {
	if at > 0 && g.needed[at/api.BlockWords] {
		g.t.Fatalf("block %d of the last commit is written", at/api.BlockWords)
	}
	return g.Device.Write(at, v)
}

// model is what devices have, by id and block.
type model map[int]map[int]int

func (m model) clone() model {
	c := model{}
	for id, x := range m {
		c[id] = maps.Clone(x)
	}
	return c
}

func found(t *testing.T, m *Meta) model {
	x := model{}
	for _, id := range m.Devices() {
		x[id] = map[int]int{}
		l, e := m.Mappings(id)
		if n, _ := m.Mapped(id); e != api.OK || n != len(l) {
			t.Fatalf("Mappings(%d): %d", id, e)
		}
		for _, p := range l {
			x[id][p.Block] = p.Data
		}
	}
	return x
}

func same(a, b model) bool {
	return maps.EqualFunc(a, b, maps.Equal)
}

// use notes the blocks that the state of a pool uses.
func (g *guard) use(m *Meta) {
	g.needed = map[int]bool{}
	for b := range m.s.blocks.Len() {
		g.needed[b] = m.s.blocks.Was(b) > 0 && b >= m.s.FirstNode()
	}
	for b := range m.s.AreaWords() / api.BlockWords {
		g.needed[1+m.s.last.Area*m.s.AreaWords()/api.BlockWords+b] = true
	}
}

// P27.7
func TestPowerFailures(t *testing.T) {
	for seed := range 150 {
		r := rand.New(rand.NewSource(int64(seed)))
		a, x := device(t, Size(64)+60*api.BlockWords)
		Format(x, 64, 1)
		g := &guard{Device: x, t: t}
		m := open1(t, g)
		g.use(m)
		now, committed := model{}, model{}
		for range 3 {
			a.Fuse(1 + r.Intn(400))
			var tried model
			for range 60 {
				if !randomOp(t, r, m, now) {
					break
				}
				if r.Intn(8) == 0 {
					tried = now.clone()
					if m.Commit() != api.OK {
						break
					}
					committed, tried = tried, nil
					g.use(m)
				}
				if !same(found(t, m), now) {
					t.Fatalf("seed %d: the pool has %v, not %v", seed, found(t, m), now)
				}
			}
			keep := make([]bool, a.Unflushed())
			for i := range keep {
				keep[i] = r.Intn(2) == 0
			}
			a.Restart(keep)
			m = open1(t, g)
			g.use(m)
			now = found(t, m)
			if !same(now, committed) && (tried == nil || !same(now, tried)) {
				t.Fatalf("seed %d: %v is neither %v nor %v", seed, now, committed, tried)
			}
			committed = now.clone()
			counts := make([]int, 64)
			for id := range now {
				for b, d := range now[id] {
					counts[d]++
					if p, _ := m.Lookup(id, b); p.Shared != (sharers(now, d) > 1) {
						t.Fatalf("seed %d: block %d of device %d: %v", seed, b, id, p)
					}
				}
			}
			for d, n := range counts {
				if (n > 0) != (m.s.data.Count(d) > 0) {
					t.Fatalf("seed %d: data block %d has %d mappings", seed, d, n)
				}
			}
		}
	}
}

func sharers(m model, d int) int {
	n := 0
	for _, x := range m {
		for _, y := range x {
			if y == d {
				n++
			}
		}
	}
	return n
}

// randomOp changes something, in the metadata and in the model; it reports whether the power is still on.
func randomOp(t *testing.T, r *rand.Rand, m *Meta, now model) bool {
	id, b := r.Intn(4), r.Intn(20)
	_, has := now[id]
	switch n := r.Intn(12); {
	case n == 0:
		if e := m.Create(id); e == api.OK {
			now[id] = map[int]int{}
		} else if has && e != api.ErrUse {
			t.Fatalf("Create: %d", e)
		}
	case n == 1:
		if e := m.Snap(id, b%4); e == api.OK {
			now[id] = maps.Clone(now[b%4])
		}
	case n == 2:
		if e := m.Delete(id); e == api.OK {
			delete(now, id)
		}
	case n < 9 && has:
		d, e := m.Alloc()
		if e != api.OK {
			return true
		}
		for _, x := range now {
			for _, y := range x {
				if y == d {
					t.Fatalf("data block %d is in use", d)
				}
			}
		}
		if e := m.Map(id, b, d); e == api.OK {
			now[id][b] = d
		} else {
			m.Release(d)
		}
	default:
		if e := m.Unmap(id, b); e == api.OK {
			delete(now[id], b)
		}
	}
	return true
}
