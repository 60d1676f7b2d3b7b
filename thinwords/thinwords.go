// Package thinwords has the words of which the metadata of thin pools consists: layers 27, 29 and 30 share them.
package thinwords

import (
	"volumegroup/api"
	"volumegroup/block"
	"volumegroup/checksum"
	"volumegroup/pack"
	"volumegroup/treenode"
)

const (
	commitTag  = 9
	perWord    = 4 // counts in a word of an area
	perBlock   = perWord * api.BlockWords
	spareNodes = 48 // node blocks of the least device
)

// commitWidths is the fields of a commit word: root block, number, checksum, tag.
func commitWidths() []int { return []int{20, 24, 16, 4} }

// DeviceWidths is the fields of a value of the device tree: root, time, mappings.
func DeviceWidths() []int { return []int{20, 20, 24} }

// MappingWidths is the fields of a value of a mapping tree: data block, time, and what is not looked at.
func MappingWidths() []int { return []int{24, 20, 20} }

// countWidths is the counts in a word of an area.
func countWidths() []int { return []int{16, 16, 16, 16} }

// The words of a root block.
const (
	RootSeq = 1 + iota
	RootTree
	RootTime
	RootData
	RootChunk
	RootArea
	RootSum
)

// Fields returns the word with these values; values that are too great are none of this program.
func Fields(widths []int, values ...uint64) uint64 {
	w, _ := pack.Fields(widths, values)
	return w
}

// Split returns the fields of a word.
func Split(widths []int, w uint64) []uint64 {
	l, _ := pack.Split(w, widths)
	return l
}

// Short returns the short checksum of words.
func Short(words ...uint64) uint64 {
	return uint64(checksum.Short(checksum.Words(words)))
}

// CommitWord returns the commit word of a root block.
func CommitWord(root, seq int) uint64 {
	sum := Short(Fields(commitWidths(), uint64(root), uint64(seq), 0, commitTag))
	return Fields(commitWidths(), uint64(root), uint64(seq), sum, commitTag)
}

// ReadCommit returns the root block and the number of a commit word.
func ReadCommit(w uint64) (root, seq int, ok bool) {
	l := Split(commitWidths(), w)
	root, seq = int(l[0]), int(l[1])
	return root, seq, w == CommitWord(root, seq)
}

// Layout says where the parts of a device are.
type Layout struct {
	Blocks     int // of the device
	areaBlocks int
}

// NewLayout returns the layout of a device with so many words, for a pool with so many data blocks.
func NewLayout(words, data int) Layout {
	return Layout{min(words/api.BlockWords, api.MaxBlocks), (data + perBlock - 1) / perBlock}
}

// FirstNode returns the first node block.
func (l Layout) FirstNode() int {
	return 2*l.areaBlocks + 1
}

// IsNode reports whether a number is that of a node block.
func (l Layout) IsNode(b uint64) bool {
	return b >= uint64(l.FirstNode()) && b < uint64(l.Blocks)
}

// AreaAt returns the first word of an area.
func (l Layout) AreaAt(k int) int {
	return (1 + k*l.areaBlocks) * api.BlockWords
}

// AreaWords returns the number of words of an area.
func (l Layout) AreaWords() int {
	return l.areaBlocks * api.BlockWords
}

// Size returns the least number of words for a pool of so many data blocks.
func Size(data int) int {
	if data < 1 || data > api.MaxData {
		return 0
	}
	return (NewLayout(0, data).FirstNode() + spareNodes) * api.BlockWords
}

// Root is what a root block tells.
type Root struct {
	Seq, Time, Data, Chunk, Area int
	Tree, Sum                    uint64
}

// Words returns the words of a root block.
func (r Root) Words(b int) []uint64 {
	l := make([]uint64, api.BlockWords)
	l[0] = treenode.Header(api.BlockRoot, 0, 0, b)
	l[RootSeq], l[RootTree], l[RootTime] = uint64(r.Seq), r.Tree, uint64(r.Time)
	l[RootData], l[RootChunk], l[RootArea], l[RootSum] = uint64(r.Data), uint64(r.Chunk), uint64(r.Area), r.Sum
	return treenode.Seal(l)
}

// ReadRoot returns what the words of a root block tell, on a device with so many words.
func ReadRoot(words []uint64, b, size int) (Root, bool) {
	if treenode.Sealed(words, api.BlockRoot, b) != api.OK {
		return Root{}, false
	}
	l := words
	if l[RootData] < 1 || l[RootData] > api.MaxData || l[RootChunk] < 1 || l[RootChunk] > api.MaxChunk || l[RootSeq] > api.MaxThinSeq ||
		l[RootTime] > api.MaxThinTime || l[RootArea] > 1 {
		return Root{}, false
	}
	data := int(l[RootData])
	x := NewLayout(size, data)
	if size < Size(data) || !x.IsNode(uint64(b)) {
		return Root{}, false
	}
	r := Root{int(l[RootSeq]), int(l[RootTime]), data, int(l[RootChunk]), int(l[RootArea]), l[RootTree], l[RootSum]}
	again := r.Words(b) // level, count and the last words are 0
	for i, w := range words {
		if w != again[i] {
			return Root{}, false
		}
	}
	return r, true
}

// Step is one of the writes and flushes that make a form.
type Step func() api.Errno

// InOrder does steps up to the first error.
func InOrder(l ...Step) api.Errno {
	for _, f := range l {
		if e := f(); e != api.OK {
			return e
		}
	}
	return api.OK
}

// Writes is the step that writes words from a sector on.
func Writes(x block.Device, at int, words ...uint64) Step {
	return func() api.Errno { return block.WriteAll(x, at, words) }
}

// CountWords returns the words of an area with the counts of data blocks.
func (l Layout) CountWords(counts []int) []uint64 {
	words := make([]uint64, l.AreaWords())
	for d, n := range counts {
		words[d/perWord] |= uint64(n) << (16 * (d % perWord))
	}
	return words
}

// Counts returns the counts of n data blocks in the words of an area.
func Counts(words []uint64, n int) []int {
	var counts []int
	for _, w := range words {
		for _, x := range Split(countWidths(), w) {
			counts = append(counts, int(x))
		}
	}
	return counts[:n]
}
