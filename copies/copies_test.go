package copies

import (
	"math"
	"math/rand"
	"slices"
	"strconv"
	"strings"
	"testing"

	"volumegroup/api"
	"volumegroup/block"
	"volumegroup/disk"
	"volumegroup/ring"
)

// areas is n formatted metadata areas of 30 sectors.
func areas(t *testing.T, n int) (*disk.Array, []block.Device) {
	t.Helper()
	sizes := slices.Repeat([]int{30}, n)
	a, e := disk.New(sizes)
	if e != api.OK {
		t.Fatal(e)
	}
	l := spans(a)
	for _, x := range l {
		ring.Format(x)
	}
	return a, l
}

func spans(a *disk.Array) []block.Device {
	var l []block.Device
	for d := range a.Count() {
		x, _ := block.Span(a, d, 0, a.Size(d))
		l = append(l, x)
	}
	return l
}

func good(seq int, text string) api.Copy { return api.Copy{Valid: true, Seq: seq, Text: text} }

// P13.1
func TestScan(t *testing.T) {
	a, l := areas(t, 5)
	Commit(l[:2], 3, "x")
	ring.Prepare(l[1], 8, "y")
	l[2].Write(0, 6)
	a.SetBad(3, 2, true)
	l[3].Write(0, 99|1<<36)
	a.SetMissing(4, true)
	tiny, _ := block.Window(l[0], 0, 3)
	found, failed, greatest := Scan(append(l, tiny))
	if !slices.Equal(found, []api.Copy{good(3, "x"), good(3, "x"), {Seq: 6}, {}, {}, {}}) || !slices.Equal(failed, []int{3, 4, 5}) || greatest != 8 {
		t.Errorf("Scan: %v, %v, %d", found, failed, greatest)
	}
	a.SetBad(0, 1, true)
	found, failed, greatest = Scan(l[:1])
	if !slices.Equal(found, []api.Copy{good(3, "x")}) || !slices.Equal(failed, []int{0}) || greatest != 0 {
		t.Errorf("Scan of a device without a prepared word: %v, %v, %d", found, failed, greatest)
	}
	if found, failed, greatest := Scan(nil); len(found)+len(failed)+greatest != 0 {
		t.Error("Scan of nothing")
	}
}

// P13.2
func TestChooseNext(t *testing.T) {
	for i, c := range []struct {
		l    []api.Copy
		want int
		e    api.Errno
	}{
		{nil, -1, api.ErrNone}, {[]api.Copy{{Seq: 5, Text: "x"}}, -1, api.ErrNone}, {[]api.Copy{good(3, "a"), good(5, "b"), good(5, "b")}, 1, api.OK}, {[]api.Copy{good(3, "a"), good(5, "b"), good(5, "c")}, -1, api.ErrConflict},
		{[]api.Copy{good(3, "a"), good(3, "z"), good(5, "b")}, 2, api.OK}, {[]api.Copy{{Seq: 9, Text: "x"}, good(5, "b"), {Seq: 5, Text: "c"}}, 1, api.OK}, {[]api.Copy{good(0, ""), good(-3, "x")}, 0, api.OK},
	} {
		if k, e := Choose(c.l); k != c.want || e != c.e {
			t.Errorf("case %d: %d, %d", i, k, e)
		}
	}
	for _, c := range []struct {
		n, want int
		e       api.Errno
	}{{0, 1, api.OK}, {api.MaxSeq - 1, api.MaxSeq, api.OK}, {api.MaxSeq, 0, api.ErrLimit}, {math.MaxInt, 0, api.ErrLimit}, {-1, 0, api.ErrRange}, {math.MinInt, 0, api.ErrRange}} {
		if n, e := Next(c.n); n != c.want || e != c.e {
			t.Errorf("Next(%d): %d, %d", c.n, n, e)
		}
	}
}

// P13.3
func TestCommit(t *testing.T) {
	a, l := areas(t, 2)
	if begun, e := Commit(nil, 1, ""); begun || e != api.ErrNone {
		t.Error("no devices")
	}
	if begun, e := Commit(l, 1, "one"); !begun || e != api.OK {
		t.Error("Commit")
	}
	n := a.Writes()
	if begun, e := Commit(l, 0, "zero"); begun || e != api.ErrRange || a.Writes() != n {
		t.Error("an error of Prepare")
	}
	a.SetMissing(1, true)
	if begun, e := Commit(l, 2, "two"); begun || e != api.ErrMissing {
		t.Error("Prepare on a missing disk")
	}
	a.SetMissing(1, false)
	if c, _ := ring.Read(l[0]); c != good(1, "one") {
		t.Error("a commit without a switch has taken effect")
	}
	// Two words and a descriptor on each disk, then the first switch, then the second one.
	a.Fuse(8)
	if begun, e := Commit(l, 3, "three"); !begun || e != api.ErrPower {
		t.Error("an error of Switch")
	}
	a.Restart(nil)
	c0, _ := ring.Read(l[0])
	c1, _ := ring.Read(l[1])
	if c0 != good(3, "three") || c1 != good(1, "one") {
		t.Errorf("copies %v, %v", c0, c1)
	}
}

// P13.4
func TestSettle(t *testing.T) {
	a, l := areas(t, 3)
	if c, e := Settle(l); e != api.ErrNone || c != (api.Copy{}) {
		t.Error("nothing to settle")
	}
	Commit(l, 3, "x")
	Commit(l[:1], 5, "y")
	ring.Prepare(l[2], 9, "z")
	l[1].Write(0, 1<<40)
	if c, e := Settle(l); e != api.OK || c != good(10, "y") {
		t.Errorf("Settle: %v, %d", c, e)
	}
	for i, x := range l {
		if c, e := ring.Read(x); e != api.OK || c != good(10, "y") {
			t.Errorf("device %d: %v, %d", i, c, e)
		}
	}
	Commit(l[:1], 11, "a")
	Commit(l[1:], 11, "b")
	if c, e := Settle(l); e != api.ErrConflict || c != (api.Copy{}) {
		t.Error("a conflict")
	}
	a.SetMissing(0, true)
	if c, e := Settle(l); e != api.ErrMissing || c != (api.Copy{}) {
		t.Error("missing ahead of all")
	}
	a.SetMissing(0, false)
	Commit(l, api.MaxSeq, "last")
	if _, e := Settle(l); e != api.ErrLimit {
		t.Error("no number is left")
	}
	_, l = areas(t, 2)
	Commit(l, 1, strings.Repeat("x", 28*8-8-40))
	if c, e := Settle(l); e != api.ErrSpace || c != (api.Copy{}) {
		t.Error("the error of the commit")
	}
	a, l = areas(t, 2)
	Commit(l, 1, "x")
	l[1].Write(0, 5)
	a.Fuse(1)
	if _, e := Settle(l); e != api.ErrPower {
		t.Error("the error of Clear")
	}
}

func keep(r *rand.Rand, n int) []bool {
	l := make([]bool, n)
	for i := range l {
		l[i] = r.Intn(2) == 0
	}
	return l
}

// P13.5
func TestCommitPowerFailures(t *testing.T) {
	r := rand.New(rand.NewSource(1))
	for n := 1; n < 30; n++ {
		for range 10 {
			a, l := areas(t, 3)
			Commit(l, 1, "old text")
			a.Fuse(n)
			_, e := Commit(l, 2, "new text")
			a.Restart(keep(r, a.Unflushed()))
			for some := 1; some < 8; some++ {
				var part []block.Device
				for i, x := range l {
					if some>>i&1 == 1 {
						part = append(part, x)
					}
				}
				found, _, _ := Scan(part)
				k, err := Choose(found)
				if err != api.OK || found[k] != good(1, "old text") && found[k] != good(2, "new text") || e == api.OK && found[k].Seq != 2 {
					t.Fatalf("fuse %d, devices %b: %v, %d", n, some, found, err)
				}
			}
		}
	}
}

// history is what P13.6 says of calls on some of the devices.
type history struct {
	last  string // the text of the last call that returned OK
	since []string
	sure  int   // the devices of that call
	calls []int // the devices of the calls since then
}

// meets reports whether devices have one in common with the last call, and with each call since then.
func (h *history) meets(set int) bool {
	return set&h.sure != 0 && !slices.ContainsFunc(h.calls, func(c int) bool { return c&set == 0 })
}

// P13.6
func TestSettleHistories(t *testing.T) {
	r := rand.New(rand.NewSource(2))
	for range 400 {
		a, l := areas(t, 3)
		Commit(l, 1, "first")
		h := history{last: "first", sure: 7}
		set, settled := 7, true
		for step := range 12 {
			if r.Intn(3) == 0 || !settled {
				next := 1 + r.Intn(7)
				if !h.meets(next) {
					continue
				}
				set, settled = next, false
			}
			var part []block.Device
			for i, x := range l {
				if set>>i&1 == 1 {
					part = append(part, x)
				}
			}
			if r.Intn(2) == 0 {
				a.Fuse(1 + r.Intn(25))
			}
			var e api.Errno
			if settled {
				text := "text " + strconv.Itoa(step)
				_, _, greatest := Scan(part)
				n, _ := Next(greatest)
				_, e = Commit(part, n, text)
				h.since = append(h.since, text)
				if e == api.OK {
					h = history{last: text, sure: set}
				}
			} else {
				var c api.Copy
				c, e = Settle(part)
				if e == api.OK {
					if c.Text != h.last && !slices.Contains(h.since, c.Text) {
						t.Fatalf("Settle chooses %q, not %q or one of %v", c.Text, h.last, h.since)
					}
					h, settled = history{last: c.Text, sure: set}, true
				} else if e != api.ErrPower {
					t.Fatalf("Settle: %d", e)
				}
			}
			if e != api.OK {
				h.calls, settled = append(h.calls, set), false
			}
			if a.Down() {
				a.Restart(keep(r, a.Unflushed()))
			}
			a.Fuse(0)
		}
	}
}
