package thinmeta

import (
	"volumegroup/api"
	"volumegroup/block"
	"volumegroup/checksum"
	"volumegroup/pack"
	"volumegroup/treenode"
)

const (
	commitTag  = 9
	perWord    = 4 // counts in a word of an area
	perBlock   = perWord * api.BlockWords
	spareNodes = 48 // node blocks of the least device
)

// The fields of a commit word, of a value of the device tree and of one of a mapping tree.
func commitWidths() []int  { return []int{20, 24, 16, 4} }
func deviceWidths() []int  { return []int{20, 20, 24} }
func mappingWidths() []int { return []int{24, 20, 20} }
func countWidths() []int   { return []int{16, 16, 16, 16} }

// The words of a root block.
const (
	rootSeq = 1 + iota
	rootTree
	rootTime
	rootData
	rootChunk
	rootArea
	rootSum
	rootEnd
)

// fields returns the word with these values; values that are too great are none of this program.
func fields(widths []int, values ...uint64) uint64 {
	w, _ := pack.Fields(widths, values)
	return w
}

func split(widths []int, w uint64) []uint64 {
	l, _ := pack.Split(w, widths)
	return l
}

func short(words ...uint64) uint64 {
	return uint64(checksum.Short(checksum.Words(words)))
}

// commitWord returns the commit word of a root block.
func commitWord(root, seq int) uint64 {
	sum := short(fields(commitWidths(), uint64(root), uint64(seq), 0, commitTag))
	return fields(commitWidths(), uint64(root), uint64(seq), sum, commitTag)
}

// readCommit returns the root block and the number of a commit word.
func readCommit(w uint64) (root, seq int, ok bool) {
	l := split(commitWidths(), w)
	root, seq = int(l[0]), int(l[1])
	return root, seq, w == commitWord(root, seq)
}

// layout says where the parts of a device are.
type layout struct {
	blocks     int // of the device
	areaBlocks int
}

func newLayout(words, data int) layout {
	return layout{min(words/api.BlockWords, api.MaxBlocks), (data + perBlock - 1) / perBlock}
}

// firstNode returns the first node block.
func (l layout) firstNode() int {
	return 2*l.areaBlocks + 1
}

func (l layout) isNode(b uint64) bool {
	return b >= uint64(l.firstNode()) && b < uint64(l.blocks)
}

// areaAt returns the first word of an area.
func (l layout) areaAt(k int) int {
	return (1 + k*l.areaBlocks) * api.BlockWords
}

func (l layout) areaWords() int {
	return l.areaBlocks * api.BlockWords
}

// Size returns the least number of words for a pool of so many data blocks.
func Size(data int) int {
	if data < 1 || data > api.MaxData {
		return 0
	}
	return (newLayout(0, data).firstNode() + spareNodes) * api.BlockWords
}

// root is what a root block tells.
type root struct {
	seq, tree, time, data, chunk, area int
	sum                                uint64
}

// words returns the words of a root block.
func (r root) words(b int) []uint64 {
	l := make([]uint64, api.BlockWords)
	l[0] = treenode.Header(api.BlockRoot, 0, 0, b)
	l[rootSeq], l[rootTree], l[rootTime] = uint64(r.seq), uint64(r.tree), uint64(r.time)
	l[rootData], l[rootChunk], l[rootArea], l[rootSum] = uint64(r.data), uint64(r.chunk), uint64(r.area), r.sum
	return treenode.Seal(l)
}

// readRoot returns what the words of a root block tell, on a device with so many words.
func readRoot(words []uint64, b, size int) (root, bool) {
	if treenode.Sealed(words, api.BlockRoot, b) != api.OK {
		return root{}, false
	}
	l := words
	if l[rootData] < 1 || l[rootData] > api.MaxData || l[rootChunk] < 1 || l[rootChunk] > api.MaxChunk || l[rootSeq] > api.MaxThinSeq ||
		l[rootTime] > api.MaxThinTime || l[rootArea] > 1 || l[rootSum] > 1<<16-1 {
		return root{}, false
	}
	data := int(l[rootData])
	x := newLayout(size, data)
	if size < Size(data) || !x.isNode(uint64(b)) || !x.isNode(l[rootTree]) {
		return root{}, false
	}
	r := root{int(l[rootSeq]), int(l[rootTree]), int(l[rootTime]), data, int(l[rootChunk]), int(l[rootArea]), l[rootSum]}
	again := r.words(b) // level, count and the last words are 0
	for i, w := range words {
		if w != again[i] {
			return root{}, false
		}
	}
	return r, true
}

// step is one of the writes and flushes that make a form.
type step func() api.Errno

func inOrder(l ...step) api.Errno {
	for _, f := range l {
		if e := f(); e != api.OK {
			return e
		}
	}
	return api.OK
}

func writes(x block.Device, at int, words ...uint64) step {
	return func() api.Errno { return block.WriteAll(x, at, words) }
}

// Format makes the metadata of a pool without thin devices.
func Format(x block.Device, data, chunk int) api.Errno {
	if Size(data) == 0 || chunk < 1 || chunk > api.MaxChunk {
		return api.ErrRange
	}
	if x.Size() < Size(data) {
		return api.ErrSize
	}
	l := newLayout(x.Size(), data)
	tree, b := l.firstNode(), l.firstNode()+1
	area := make([]uint64, l.areaWords())
	leaf, _ := treenode.Encode(api.TreeNode{}, tree)
	r := root{tree: tree, data: data, chunk: chunk, sum: short(area...)}
	return inOrder(
		writes(x, 0, 0), x.Flush,
		writes(x, l.areaAt(0), area...), writes(x, tree*api.BlockWords, leaf...), writes(x, b*api.BlockWords, r.words(b)...), x.Flush,
		writes(x, 0, commitWord(b, 0)), x.Flush,
	)
}
