package ring

import (
	"slices"
	"strings"
	"testing"

	"volumegroup/api"
	"volumegroup/block"
	"volumegroup/checksum"
	"volumegroup/disk"
	"volumegroup/pack"
)

func device(t *testing.T, n int) (*disk.Array, block.Device) {
	t.Helper()
	a, e := disk.New([]int{n})
	if e != api.OK {
		t.Fatal(e)
	}
	x, _ := block.Span(a, 0, 0, n)
	return a, x
}

func commit(t *testing.T, x block.Device, seq int, text string) {
	t.Helper()
	if e := Prepare(x, seq, text); e != api.OK {
		t.Fatalf("Prepare %d: %d", seq, e)
	}
	if e := Switch(x); e != api.OK {
		t.Fatalf("Switch %d: %d", seq, e)
	}
}

func want(t *testing.T, x block.Device, c api.Copy, e api.Errno) {
	t.Helper()
	if got, err := Read(x); got != c || err != e {
		t.Errorf("Read is %v, %d, not %v, %d", got, err, c, e)
	}
}

// word is the word of a descriptor, by the chapter's words.
func word(seq, start int, text string) uint64 {
	w, _ := pack.Text(text)
	sum := checksum.Short(checksum.Words(append([]uint64{uint64(seq), uint64(start), uint64(len(w))}, w...)))
	return uint64(seq) | uint64(start)<<20 | uint64(len(w))<<36 | uint64(sum)<<48
}

// P12.1
func TestFormatClear(t *testing.T) {
	a, x := device(t, 12)
	for i := range 12 {
		x.Write(i, 5)
	}
	n := a.Writes()
	if Format(x) != api.OK || a.Writes() != n+2 || a.Unflushed() != 0 {
		t.Error("Format")
	}
	if l, _ := a.Image(0); !slices.Equal(l[:3], []uint64{0, 0, 5}) {
		t.Error("the words behind Format")
	}
	x.Write(0, 7)
	x.Write(1, 8)
	if Clear(x) != api.OK || a.Unflushed() != 0 {
		t.Error("Clear")
	}
	if l, _ := a.Image(0); !slices.Equal(l[:3], []uint64{0, 8, 5}) {
		t.Error("the words behind Clear")
	}
	_, y := device(t, 3)
	_, e1 := Read(y)
	_, _, e2 := Seqs(y)
	for i, e := range []api.Errno{Format(y), Clear(y), Switch(y), Prepare(y, 0, ""), e1, e2} {
		if e != api.ErrSize {
			t.Errorf("function %d of a device of 3 sectors: %d", i, e)
		}
	}
	a.Fuse(2)
	if Format(x) != api.ErrPower {
		t.Error("the device's error")
	}
	if Format(block.Zero(5)) != api.ErrReadOnly || Clear(block.Fail(5)) != api.ErrBad {
		t.Error("the device's error")
	}
}

// P12.2
func TestRead(t *testing.T) {
	a, x := device(t, 12)
	want(t, x, api.Copy{}, api.ErrNone)
	commit(t, x, 3, "hello")
	want(t, x, api.Copy{Valid: true, Seq: 3, Text: "hello"}, api.OK)
	Prepare(x, 9, "x")
	if c, p, e := Seqs(x); c != 3 || p != 9 || e != api.OK {
		t.Error("Seqs")
	}
	image, _ := a.Image(0)
	good := image[0]
	try := func(w uint64, seq int) {
		t.Helper()
		x.Write(0, w)
		want(t, x, api.Copy{Seq: seq}, api.ErrSum)
		x.Write(0, good)
	}
	try(word(0, 0, "hello"), 0)
	try(good^1<<50, 3)
	try(good^1, 2)
	try(3|uint64(0)<<36, 3)
	try(word(3, 10, "hello"), 3)
	try(word(3, 0, strings.Repeat("x", 100)), 3)
	x.Write(2, 6)
	want(t, x, api.Copy{Seq: 3}, api.ErrSum)
	x.Write(2, 1<<40)
	sum := checksum.Short(checksum.Words([]uint64{3, 0, 2, 1 << 40, image[3]}))
	try(3|2<<36|uint64(sum)<<48, 3)
	x.Write(2, 5)
	want(t, x, api.Copy{Valid: true, Seq: 3, Text: "hello"}, api.OK)
	a.SetBad(0, 3, true)
	want(t, x, api.Copy{}, api.ErrBad)
	a.SetBad(0, 0, true)
	want(t, x, api.Copy{}, api.ErrBad)
	if c, p, e := Seqs(x); c != 0 || p != 0 || e != api.ErrBad {
		t.Error("Seqs of bad sectors")
	}
	x.Write(0, 1<<20-1|1<<63)
	x.Write(1, 1<<20)
	if c, p, e := Seqs(x); c != 1<<20-1 || p != 0 || e != api.OK {
		t.Error("Seqs of any words")
	}
}

// P12.3
func TestPrepare(t *testing.T) {
	a, x := device(t, 12)
	first, second, third := strings.Repeat("a", 20), strings.Repeat("b", 30), strings.Repeat("c", 24)
	for i, c := range []struct {
		text   string
		places []int
	}{{first, []int{0, 1, 2, 3}}, {second, []int{4, 5, 6, 7, 8}}, {third, []int{9, 0, 1, 2}}} {
		if e := Prepare(x, i+1, c.text); e != api.OK {
			t.Fatal(e)
		}
		l, _ := a.Image(0)
		w, _ := pack.Text(c.text)
		for k, p := range c.places {
			if l[2+p] != w[k] {
				t.Errorf("text %d: place %d", i, p)
			}
		}
		if l[1] != word(i+1, c.places[0], c.text) || a.Unflushed() != 0 {
			t.Errorf("text %d: the prepared word", i)
		}
		Switch(x)
	}
	n := a.Writes()
	for _, c := range []struct {
		seq  int
		text string
		want api.Errno
	}{{0, strings.Repeat("x", 8193), api.ErrRange}, {-1, "", api.ErrRange}, {1 << 20, "", api.ErrRange}, {1<<20 - 1, strings.Repeat("x", 8193), api.ErrLimit}, {5, strings.Repeat("x", 41), api.ErrSpace}} {
		if e := Prepare(x, c.seq, c.text); e != c.want {
			t.Errorf("Prepare %d: %d", c.seq, e)
		}
	}
	if a.Writes() != n || Prepare(x, 1<<20-1, strings.Repeat("x", 40)) != api.OK {
		t.Error("a text that just fits")
	}
	x.Write(0, 77)
	if Prepare(x, 5, strings.Repeat("x", 99)) != api.ErrSum {
		t.Error("a committed word that is not whole")
	}
	Clear(x)
	if Prepare(x, 5, strings.Repeat("x", 73)) != api.ErrSpace || Prepare(x, 5, strings.Repeat("x", 72)) != api.OK {
		t.Error("the longest text")
	}
	a.SetBad(0, 0, true)
	if Prepare(x, 5, "") != api.ErrBad {
		t.Error("the device's error")
	}
}

func TestGreatestRing(t *testing.T) {
	x := block.Concat([]block.Device{span(t, 65536), span(t, 65536)})
	d := descriptor{1, 65530, 2}
	w, _ := pack.Text("abc")
	d[3] = d.sumOf(w)
	x.Write(0, d.word())
	x.Write(2+65530, w[0])
	x.Write(2+65531, w[1])
	want(t, x, api.Copy{Valid: true, Seq: 1, Text: "abc"}, api.OK)
	if e := Prepare(x, 2, strings.Repeat("z", 32)); e != api.OK {
		t.Fatal(e)
	}
	last, _ := x.Read(2 + 65534)
	over, _ := x.Read(2 + 65535)
	first, _ := x.Read(2)
	second, _ := x.Read(3)
	if last == 0 || over != 0 || first == 0 || second == 0 {
		t.Error("a ring has 65535 places at most")
	}
}

func span(t *testing.T, n int) block.Device {
	_, x := device(t, n)
	return x
}

// P12.4
func TestSwitch(t *testing.T) {
	a, x := device(t, 12)
	if Switch(x) != api.ErrNone || a.Writes() != 0 {
		t.Error("nothing is prepared")
	}
	Prepare(x, 1, "hello")
	x.Write(3, 1)
	n := a.Writes()
	if Switch(x) != api.ErrSum || a.Writes() != n {
		t.Error("what is prepared is not whole")
	}
	commit(t, x, 2, "world")
	if l, _ := a.Image(0); l[0] != l[1] || a.Unflushed() != 0 {
		t.Error("Switch copies the word")
	}
	a.SetBad(0, 1, true)
	if Switch(x) != api.ErrBad {
		t.Error("the device's error")
	}
}

// P12.5
func TestPowerFailures(t *testing.T) {
	old, now := api.Copy{Valid: true, Seq: 4, Text: strings.Repeat("o", 24)}, api.Copy{Valid: true, Seq: 5, Text: strings.Repeat("n", 30)}
	for n := 1; n < 20; n++ {
		a, x := device(t, 12)
		commit(t, x, 3, "first text")
		commit(t, x, old.Seq, old.Text)
		a.Fuse(n)
		e := Prepare(x, now.Seq, now.Text)
		prepared := e == api.OK
		if prepared {
			want(t, x, old, api.OK)
			e = Switch(x)
		}
		for mask := range 1 << a.Unflushed() {
			c := a.Copy()
			var keep []bool
			for i := range a.Unflushed() {
				keep = append(keep, mask>>i&1 == 1)
			}
			c.Restart(keep)
			y, _ := block.Span(c, 0, 0, 12)
			got, err := Read(y)
			if err != api.OK || got != old && got != now || got != old && !prepared || got != now && e == api.OK {
				t.Errorf("fuse %d, survivors %b: %v, %d", n, mask, got, err)
			}
		}
	}
}
