package parityvol

import (
	"math/rand"
	"slices"
	"testing"

	"volumegroup/api"
	"volumegroup/block"
	"volumegroup/disk"
)

// track knows the candidates of all sectors, and what was read last, as long as that binds.
type track struct {
	candidates [][]uint64
	completed  []bool
}

func newTrack(n int) *track {
	k := &track{}
	for range n {
		k.candidates, k.completed = append(k.candidates, []uint64{0}), append(k.completed, true)
	}
	return k
}

func (k *track) write(at int, v uint64, e api.Errno) {
	k.candidates[at] = append(k.candidates[at], v)
	k.completed[at] = e == api.OK
}

func (k *track) flush() {
	for at, l := range k.candidates {
		if k.completed[at] {
			k.candidates[at] = l[len(l)-1:]
		}
	}
}

// read checks a word that was read; from then on the sector has to read it, until it is written.
func (k *track) read(t *testing.T, at int, v uint64, behindFailure bool) {
	t.Helper()
	l := k.candidates[at]
	if !slices.Contains(l, v) || k.completed[at] && !behindFailure && v != l[len(l)-1] {
		t.Fatalf("sector %d reads %d; the candidates are %v, the last one completed: %v", at, v, l, k.completed[at])
	}
}

// settle takes what is read behind a power failure as the only candidates.
func (k *track) settle(t *testing.T, x interface{ Read(int) (uint64, api.Errno) }) {
	t.Helper()
	for at := range k.candidates {
		v, e := x.Read(at)
		if e != api.OK {
			t.Fatalf("sector %d: %d", at, e)
		}
		k.read(t, at, v, true)
		k.candidates[at], k.completed[at] = []uint64{v}, true
	}
}

type world struct {
	t     *testing.T
	r     *rand.Rand
	a     *disk.Array
	chunk int
	legs  []block.Device
	stale []int
	v     *Volume
	k     *track
	next  uint64
}

func newWorld(t *testing.T, r *rand.Rand) *world {
	n, chunk := 3+r.Intn(2), 1+r.Intn(3)
	a, _ := disk.New(slices.Repeat([]int{Head + chunk*(1+r.Intn(3)) + r.Intn(chunk)}, n))
	w := &world{t: t, r: r, a: a, chunk: chunk}
	for d := range n {
		x, _ := block.Span(a, d, 0, a.Size(d))
		block.WriteAll(x, 0, slices.Repeat([]uint64{r.Uint64()}, a.Size(d)))
		w.legs = append(w.legs, x)
	}
	if e := Format(w.legs, chunk); e != api.OK {
		t.Fatal(e)
	}
	w.v, _ = Open(w.legs, nil, chunk)
	w.k = newTrack(w.v.Size())
	return w
}

// dealt drops a leg that has failed; it reports whether the volume can go on.
func (w *world) dealt(e api.Errno) bool {
	if e == api.ErrPower {
		return false
	}
	if e != api.ErrLeg {
		w.t.Fatalf("error %d", e)
	}
	if w.r.Intn(4) == 0 && len(w.stale) == 0 { // a fault that passes: the power fails ahead of any commit
		for d := range w.legs {
			w.a.SetMissing(d, false)
		}
		return false
	}
	for _, k := range w.v.Failed() {
		if e := w.v.Drop(k); e != api.OK {
			w.t.Fatalf("Drop(%d): %d", k, e)
		}
		w.stale = []int{k}
	}
	return true
}

func (w *world) op() bool {
	at := w.r.Intn(w.v.Size())
	switch n := w.r.Intn(10); {
	case n < 5:
		w.next++
		for {
			e := w.v.Write(at, w.next)
			w.k.write(at, w.next, e)
			if e == api.OK {
				return true
			}
			if !w.dealt(e) {
				return false
			}
		}
	case n < 7:
		x, e := w.v.Read(at)
		if e != api.OK {
			return w.dealt(e)
		}
		w.k.read(w.t, at, x, false)
	case n < 8:
		e := w.v.Flush()
		if e != api.OK {
			return w.dealt(e)
		}
		w.k.flush()
	case len(w.stale) == 1 && !w.a.Missing(w.stale[0]):
		return w.fill()
	}
	return true
}

func (w *world) fill() bool {
	if _, e := w.v.Fill(w.r.Intn(3)); e != api.OK {
		return w.dealt(e)
	}
	if w.v.Filled() {
		if e := w.v.Accept(); e != api.OK {
			return w.dealt(e)
		}
		w.stale = nil
	}
	return true
}

// lose lets a leg be missing from now on, if all are good.
func (w *world) lose(tell bool) {
	missing := slices.ContainsFunc([]int{0, 1, 2, 3}, w.a.Missing)
	if len(w.stale) > 0 || missing {
		return
	}
	k := w.r.Intn(len(w.legs))
	w.a.SetMissing(k, true)
	if tell {
		w.stale = []int{k}
	}
}

// lost names a leg that is missing and was not dropped yet.
func (w *world) lost() {
	for d := range w.legs {
		if w.a.Missing(d) {
			w.stale = []int{d}
		}
	}
}

func (w *world) restart() {
	keep := make([]bool, w.a.Unflushed())
	style := w.r.Intn(3)
	for i := range keep {
		keep[i] = style == 0 && w.r.Intn(2) == 0 || style == 1 && w.r.Intn(5) == 0 || style == 2 && w.r.Intn(5) > 0
	}
	w.a.Restart(keep)
	w.lost()
}

func (w *world) open() {
	for {
		if w.r.Intn(3) == 0 {
			w.a.Fuse(1 + w.r.Intn(20))
		}
		if w.r.Intn(6) == 0 {
			w.lose(true)
		}
		v, e := Open(w.legs, w.stale, w.chunk)
		if e == api.OK {
			w.v = v
			w.a.Fuse(0)
			return
		}
		if e != api.ErrPower {
			w.t.Fatalf("Open: %d", e)
		}
		w.restart()
	}
}

// P19.7
func TestSound(t *testing.T) {
	for seed := range 3000 {
		w := newWorld(t, rand.New(rand.NewSource(int64(seed))))
		for range 4 {
			w.a.Fuse(1 + w.r.Intn(150))
			for range 1 + w.r.Intn(14) {
				if w.r.Intn(25) == 0 {
					w.lose(false)
				}
				if w.r.Intn(10) == 0 && len(w.stale) == 1 {
					w.a.SetMissing(w.stale[0], false)
				}
				if !w.op() {
					break
				}
			}
			if w.r.Intn(5) == 0 {
				w.lose(true)
			}
			w.restart()
			w.open()
			w.k.settle(t, w.v)
			if w.r.Intn(2) == 0 {
				w.restart()
				w.open()
				w.k.settle(t, w.v)
			}
			if len(w.stale) == 0 {
				if l, e := w.v.Scrub(0, 99); e != api.OK || len(l) > 0 {
					t.Fatalf("seed %d: Scrub: %v, %d", seed, l, e)
				}
			}
		}
	}
}
