package thinrepair

import (
	"math/rand"
	"slices"
	"testing"

	"volumegroup/api"
	"volumegroup/block"
	"volumegroup/disk"
	"volumegroup/thincheck"
	"volumegroup/thinmeta"
	"volumegroup/thinwords"
	"volumegroup/treenode"
)

func device(t *testing.T, n int) (*disk.Array, block.Device) {
	t.Helper()
	a, e := disk.New([]int{n})
	if e != api.OK {
		t.Fatal(e)
	}
	x, _ := block.Span(a, 0, 0, n)
	return a, x
}

func image(a *disk.Array) []uint64 {
	l, _ := a.Image(0)
	return l
}

func same(a, b api.Dump) bool {
	return a.Data == b.Data && a.Chunk == b.Chunk && a.Time == b.Time && slices.EqualFunc(a.Devices, b.Devices, func(x, y api.ThinDevice) bool {
		return x.ID == y.ID && x.Time == y.Time && slices.Equal(x.Mappings, y.Mappings)
	})
}

// mappings is n mappings of every second block to data blocks from 0 on.
func mappings(n int) []api.ThinMapping {
	var l []api.ThinMapping
	for i := range n {
		l = append(l, api.ThinMapping{Block: 2 * i, Data: i % 64, Time: i % 3})
	}
	return l
}

func example() api.Dump {
	return api.Dump{Data: 64, Chunk: 2, Time: 5, Devices: []api.ThinDevice{{ID: 1, Time: 0, Mappings: mappings(60)}, {ID: 2, Time: 5}, {ID: 9, Time: 2, Mappings: mappings(7)}, {ID: 10, Time: 2, Mappings: mappings(8)}}}
}

// pool makes a pool with the devices 1, 2 (a snapshot) and 3 in two commits.
func pool(t *testing.T) (*disk.Array, block.Device, *thinmeta.Meta) {
	t.Helper()
	a, x := device(t, thinmeta.Size(64)+100*api.BlockWords)
	thinmeta.Format(x, 64, 2)
	m, e := thinmeta.Open(x)
	if e != api.OK {
		t.Fatal(e)
	}
	add := func(id, b int) {
		d, _ := m.Alloc()
		m.Map(id, b, d)
	}
	m.Create(1)
	for b := range 20 {
		add(1, 10*b)
	}
	m.Commit()
	m.Snap(2, 1)
	add(2, 5)
	m.Create(3)
	add(3, 7)
	if e := m.Commit(); e != api.OK {
		t.Fatal(e)
	}
	return a, x, m
}

// content is what the metadata tells.
func content(t *testing.T, m *thinmeta.Meta) map[int][]api.ThinMapping {
	t.Helper()
	c := map[int][]api.ThinMapping{}
	for _, id := range m.Devices() {
		l, e := m.Mappings(id)
		if e != api.OK {
			t.Fatal(e)
		}
		c[id] = l
	}
	return c
}

// P30.1
func TestDumpValid(t *testing.T) {
	a, _, m := pool(t)
	d, e := Dump(image(a))
	if e != api.OK || d.Data != 64 || d.Chunk != 2 || d.Time != 1 || len(d.Devices) != 3 || d.Devices[1].ID != 2 || d.Devices[1].Time != 1 {
		t.Fatalf("Dump: %v, %d", d, e)
	}
	for id, l := range content(t, m) {
		if !slices.Equal(d.Devices[id-1].Mappings, l) {
			t.Errorf("device %d has %v", id, d.Devices[id-1].Mappings)
		}
	}
	l := image(a)
	l[20]++
	for _, w := range [][]uint64{nil, l, make([]uint64, 900)} {
		if d, e := Dump(w); e != api.ErrDamage || !same(d, api.Dump{}) {
			t.Error("Dump of damaged metadata")
		}
	}
	if Valid(example()) != api.OK || Valid(d) != api.OK || Valid(api.Dump{Data: api.MaxData, Chunk: api.MaxChunk, Time: api.MaxThinTime}) != api.OK {
		t.Error("Valid")
	}
	for i, c := range []struct {
		f    func(d *api.Dump)
		want api.Errno
	}{
		{func(d *api.Dump) { d.Data = 0 }, api.ErrRange}, {func(d *api.Dump) { d.Data = api.MaxData + 1 }, api.ErrRange}, {func(d *api.Dump) { d.Chunk = 0 }, api.ErrRange}, {func(d *api.Dump) { d.Chunk = 65 }, api.ErrRange}, {func(d *api.Dump) { d.Time = -1 }, api.ErrRange}, {func(d *api.Dump) { d.Time = 1 << 20; d.Devices = make([]api.ThinDevice, 65) }, api.ErrRange},
		{func(d *api.Dump) { d.Devices = make([]api.ThinDevice, 65) }, api.ErrLimit},
		{func(d *api.Dump) { d.Devices[0].ID = -1 }, api.ErrForm}, {func(d *api.Dump) { d.Devices[1].ID = 1 }, api.ErrForm}, {func(d *api.Dump) { d.Devices[3].ID = 65536 }, api.ErrForm}, {func(d *api.Dump) { d.Devices[1].Time = 6 }, api.ErrForm}, {func(d *api.Dump) { d.Devices[1].Time = -1 }, api.ErrForm},
		{func(d *api.Dump) { d.Devices[0].Mappings[0].Block = -1 }, api.ErrForm}, {func(d *api.Dump) { d.Devices[0].Mappings[1].Block = 0 }, api.ErrForm}, {func(d *api.Dump) { d.Devices[0].Mappings[59].Block = api.MaxKey + 1 }, api.ErrForm}, {func(d *api.Dump) { d.Devices[0].Mappings[3].Data = 64 }, api.ErrForm}, {func(d *api.Dump) { d.Devices[0].Mappings[3].Data = -1 }, api.ErrForm}, {func(d *api.Dump) { d.Devices[0].Mappings[3].Time = 6 }, api.ErrForm}, {func(d *api.Dump) { d.Devices[0].Mappings[3].Time = -1 }, api.ErrForm},
	} {
		d := example()
		c.f(&d)
		a, x := device(t, 4000)
		if Valid(d) != c.want || Restore(x, d) != c.want || a.Writes() > 0 {
			t.Errorf("dump %d: %d", i, Valid(d))
		}
	}
}

// P30.2
func TestRestore(t *testing.T) {
	a, x := device(t, 4000)
	block.WriteAll(x, 0, slices.Repeat([]uint64{77}, 4000))
	if e := Restore(x, example()); e != api.OK || a.Unflushed() != 0 {
		t.Fatalf("Restore: %d", e)
	}
	l := image(a)
	if v := thincheck.Check(l); len(v) > 0 {
		t.Fatalf("violations %v", v)
	}
	// 60 mappings make 9 leaves, an inner node of 7 and one of 2, and a root.
	node := func(b int) api.TreeNode {
		n, e := treenode.Decode(l[b*16:b*16+16], b)
		if e != api.OK {
			t.Fatalf("block %d: %d", b, e)
		}
		return n
	}
	for b, want := range map[int][3]int{3: {0, 7, 0}, 11: {0, 4, 112}, 12: {1, 7, 0}, 13: {1, 2, 98}, 14: {2, 2, 0}, 15: {0, 0, 0}, 16: {0, 7, 0}, 17: {0, 7, 0}, 18: {0, 1, 14}, 19: {1, 2, 0}, 20: {0, 4, 1}} {
		n := node(b)
		if n.Level != want[0] || len(n.Entries) != want[1] || len(n.Entries) > 0 && n.Entries[0].Key != want[2] || n.Seq != 1 {
			t.Errorf("block %d: %v", b, n)
		}
	}
	if node(14).Entries[1].Value != 13 || node(20).Entries[1].Value != 15|5<<20 || node(20).Entries[0].Value != 14|60<<40 {
		t.Error("references")
	}
	if l[0] != thinwords.CommitWord(21, 1) || l[21*16+thinwords.RootArea] != 0 || l[22*16] != 77 || l[16] != 3|3<<16|3<<32|3<<48 {
		t.Error("the root block and the area")
	}
	_, e := thinmeta.Open(x)
	if e != api.OK {
		t.Errorf("Open: %d", e)
	}
	_, small := device(t, thinmeta.Size(64)-1)
	if Restore(small, example()) != api.ErrSize {
		t.Error("a device that is too small")
	}
	d := example()
	d.Devices[2].Mappings = mappings(500)
	_, least := device(t, thinmeta.Size(64))
	if Restore(least, d) != api.ErrRoom || Restore(least, api.Dump{Data: 64, Chunk: 1}) != api.OK {
		t.Error("room")
	}
	d = api.Dump{Data: 1, Chunk: 1}
	for id := range 64 {
		var m []api.ThinMapping
		for b := range 1025 {
			m = append(m, api.ThinMapping{Block: b})
		}
		d.Devices = append(d.Devices, api.ThinDevice{ID: id, Mappings: m})
	}
	if Restore(least, d) != api.ErrLimit {
		t.Error("too many mappings of a data block")
	}
	a.Fuse(3)
	if Restore(x, example()) != api.ErrPower {
		t.Error("the device's error")
	}
}

// TestRestoreRoom fills a device of 48 node blocks as far as is permitted.
func TestRestoreRoom(t *testing.T) {
	d := api.Dump{Data: 64, Chunk: 1}
	for id := range 12 {
		d.Devices = append(d.Devices, api.ThinDevice{ID: id})
	}
	_, x := device(t, thinmeta.Size(64)) // 12 leaves, 3 nodes of the device tree, and the root block
	if e := Restore(x, d); e != api.OK {
		t.Errorf("12 devices: %d", e)
	}
	d.Devices = append(d.Devices, api.ThinDevice{ID: 12})
	if e := Restore(x, d); e != api.ErrRoom {
		t.Errorf("13 devices: %d", e)
	}
}

// P30.3
func TestRootsSalvage(t *testing.T) {
	a, _, _ := pool(t)
	good := image(a)
	root := int(good[0] & 0xFFFFF)
	roots := Roots(good)
	if len(roots) != 2 || roots[0] != root || Roots(nil) != nil || len(Roots(make([]uint64, 999))) != 0 {
		t.Fatalf("Roots: %v", roots)
	}
	for i, want := range []uint64{2, 1} {
		if good[roots[i]*16+1] != want {
			t.Errorf("root %d is of the transaction %d", i, good[roots[i]*16+1])
		}
	}
	whole, _ := Dump(good)
	l := slices.Clone(good)
	l[0] = 0
	l[20], l[40] = 9, 9
	if d, n, e := Salvage(l); e != api.OK || n != 0 || !same(d, whole) {
		t.Error("Salvage without a commit word and areas")
	}
	// The device tree of the last transaction is damaged: an earlier root is whole.
	tree := int(good[root*16+thinwords.RootTree])
	l[tree*16+3] ^= 1
	d, n, e := Salvage(l)
	if e != api.OK || n != 0 || d.Time != 0 || len(d.Devices) != 1 || len(d.Devices[0].Mappings) != 20 {
		t.Errorf("Salvage of the transaction before: %v, %d, %d", d, n, e)
	}
	if _, _, e := Salvage(make([]uint64, 999)); e != api.ErrNone {
		t.Error("no roots")
	}
}

// only takes all root blocks away but the last one, so that nothing else is whole.
func only(l []uint64) []uint64 {
	l = slices.Clone(l)
	for _, b := range Roots(l)[1:] {
		clear(l[b*16 : b*16+16])
	}
	return l
}

func TestSalvageParts(t *testing.T) {
	a, _, _ := pool(t)
	good := only(image(a))
	whole, _, _ := Salvage(good)
	root := Roots(good)[0]
	tree := int(good[root*16+thinwords.RootTree])
	one := int(good[tree*16+8] & 0xFFFFF)
	three := int(good[tree*16+10] & 0xFFFFF)
	first, last := int(good[one*16+8]), int(good[one*16+8+int(good[one*16]>>8&15)-1])
	set := func(l []uint64, b, i int, w uint64) {
		l[b*16+i] = w
		copy(l[b*16:], treenode.Seal(l[b*16:b*16+16]))
	}
	size := func(d api.Dump) (n []int) {
		for _, x := range d.Devices {
			n = append(n, len(x.Mappings))
		}
		return n
	}
	if !slices.Equal(size(whole), []int{20, 21, 1}) {
		t.Fatalf("the pool: %v", size(whole))
	}
	inFirst, inLast := int(good[first*16]>>8&15), int(good[last*16]>>8&15)
	for i, c := range []struct {
		f    func(l []uint64)
		want []int
		left int
	}{
		{func(l []uint64) { l[first*16+3] ^= 1 }, []int{20 - inFirst, 21, 1}, 1},
		{func(l []uint64) { l[last*16+3] ^= 1 }, []int{20 - inLast, 21 - inLast, 1}, 2},
		{func(l []uint64) { set(l, first, 15, 99) }, []int{20 - inFirst, 21, 1}, 1},
		{func(l []uint64) { set(l, tree, 8, l[tree*16+8]|9<<20) }, []int{21, 1}, 1},
		{func(l []uint64) { set(l, tree, 8, l[tree*16+8]+1<<40) }, []int{20, 21, 1}, 0},
		{func(l []uint64) { set(l, three, 8, 64) }, []int{20, 21, 0}, 1},
		{func(l []uint64) { set(l, last, 1, 3) }, []int{19, 20, 1}, 1},
		{func(l []uint64) { set(l, tree, 10, 1) }, []int{20, 21, 0}, 1},
		{func(l []uint64) { l[tree*16] ^= 1 }, nil, 1},
	} {
		l := slices.Clone(good)
		c.f(l)
		d, n, e := Salvage(l)
		if e != api.OK || n != c.left || !slices.Equal(size(d), c.want) {
			t.Errorf("damage %d: %v, %d, %d, not %v, %d", i, size(d), n, e, c.want, c.left)
		}
		for _, x := range d.Devices {
			k := slices.IndexFunc(whole.Devices, func(y api.ThinDevice) bool { return y.ID == x.ID })
			for _, m := range x.Mappings {
				if !slices.Contains(whole.Devices[k].Mappings, m) {
					t.Errorf("damage %d: %v was never there", i, m)
				}
			}
		}
	}
}

func TestTooManyDevices(t *testing.T) {
	a, x := device(t, 9000)
	d := api.Dump{Data: 64, Chunk: 1}
	for id := range 64 {
		d.Devices = append(d.Devices, api.ThinDevice{ID: id})
	}
	if e := Restore(x, d); e != api.OK {
		t.Fatal(e)
	}
	l := image(a)
	root := Roots(l)[0]
	top := int(l[root*16+thinwords.RootTree])
	inner, _ := treenode.Decode(l[top*16:top*16+16], top)
	b := int(inner.Entries[len(inner.Entries)-1].Value)
	mid, _ := treenode.Decode(l[b*16:b*16+16], b)
	leaf := int(mid.Entries[len(mid.Entries)-1].Value)
	n, _ := treenode.Decode(l[leaf*16:leaf*16+16], leaf)
	for id := 100; len(n.Entries) < 5; id++ {
		n.Entries = append(n.Entries, api.TreeEntry{Key: id, Value: n.Entries[0].Value})
	}
	w, _ := treenode.Encode(n, leaf)
	copy(l[leaf*16:], w)
	if v := thincheck.Check(l); len(v) > 0 {
		t.Fatalf("violations %v", v)
	}
	all, _ := Dump(l)
	s, left, e := Salvage(l)
	if len(all.Devices) <= 64 || e != api.OK || left != len(all.Devices)-64 || len(s.Devices) != 64 {
		t.Errorf("%d devices, %d left out", len(s.Devices), left)
	}
}

// P30.4
func TestRepair(t *testing.T) {
	a, x, _ := pool(t)
	whole, _ := Dump(image(a))
	x.Write(0, 5)
	b, y := device(t, 6000)
	n, e := Repair(x, y)
	if d, _ := Dump(image(b)); e != api.OK || n != 0 || !same(d, whole) {
		t.Errorf("Repair: %d, %d", n, e)
	}
	root := Roots(image(a))[0]
	a.SetBad(0, root*16, true)
	n, e = Repair(x, y)
	if d, _ := Dump(image(b)); e != api.OK || n != 0 || len(d.Devices) != 1 {
		t.Errorf("Repair of a bad sector: %d, %d", n, e)
	}
	_, small := device(t, 100)
	if _, e := Repair(x, small); e != api.ErrSize {
		t.Error("the error of Restore")
	}
	if _, e := Repair(small, y); e != api.ErrNone {
		t.Error("the error of Salvage")
	}
	a.SetMissing(0, true)
	if _, e := Repair(x, y); e != api.ErrMissing {
		t.Error("the error of reading")
	}
}

// P30.5
func TestInverse(t *testing.T) {
	r := rand.New(rand.NewSource(1))
	for range 100 {
		d := api.Dump{Data: 1 + r.Intn(300), Chunk: 1 + r.Intn(64), Time: r.Intn(9)}
		id := -1
		for range r.Intn(5) {
			id += 1 + r.Intn(9)
			x := api.ThinDevice{ID: id, Time: r.Intn(d.Time + 1)}
			b := -1
			for range r.Intn(80) {
				b += 1 + r.Intn(20)
				x.Mappings = append(x.Mappings, api.ThinMapping{Block: b, Data: r.Intn(d.Data), Time: r.Intn(d.Time + 1)})
			}
			d.Devices = append(d.Devices, x)
		}
		a, x := device(t, 6000)
		if e := Restore(x, d); e != api.OK {
			t.Fatal(e)
		}
		l := image(a)
		got, e := Dump(l)
		s, n, e2 := Salvage(l)
		if e != api.OK || e2 != api.OK || n != 0 || !same(got, d) || !same(s, d) {
			t.Fatalf("Dump of Restore: %v, not %v", got, d)
		}
		// Whatever is damaged, nothing is told that was not there.
		for range 5 {
			l[16+r.Intn(len(l)-16)] ^= 1 << r.Intn(64)
		}
		s, _, e = Salvage(l)
		for _, x := range s.Devices {
			k := slices.IndexFunc(d.Devices, func(y api.ThinDevice) bool { return y.ID == x.ID })
			for _, m := range x.Mappings {
				if e != api.OK || k < 0 || !slices.Contains(d.Devices[k].Mappings, m) {
					t.Fatalf("%v was never there", m)
				}
			}
		}
	}
}
