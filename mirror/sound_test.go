package mirror

import (
	"math/rand"
	"slices"
	"testing"

	"volumegroup/api"
	"volumegroup/block"
	"volumegroup/disk"
	"volumegroup/regionlog"
)

// track knows the candidates of all sectors, and what was read last, as long as that binds.
type track struct {
	candidates [][]uint64
	completed  []bool
}

func (k *track) write(at int, v uint64, e api.Errno) {
	k.candidates[at] = append(k.candidates[at], v)
	k.completed[at] = e == api.OK
}

func (k *track) flush() {
	for at, l := range k.candidates {
		if k.completed[at] {
			k.candidates[at] = l[len(l)-1:]
		}
	}
}

// read checks a word that was read.
func (k *track) read(t *testing.T, at int, v uint64, behindFailure bool) {
	t.Helper()
	l := k.candidates[at]
	if !slices.Contains(l, v) || k.completed[at] && !behindFailure && v != l[len(l)-1] {
		t.Fatalf("sector %d reads %d; the candidates are %v, the last one completed: %v", at, v, l, k.completed[at])
	}
	if behindFailure {
		k.candidates[at], k.completed[at] = []uint64{v}, true
	}
}

// world is a mirror whose legs are the disks but the last one, which has the log.
type world struct {
	t      *testing.T
	r      *rand.Rand
	a      *disk.Array
	region int
	legs   []block.Device
	log    block.Device
	stale  map[int]bool
	fresh  map[int]bool // sectors that were not read since the last power failure
	m      *Mirror
	k      *track
	next   uint64
	crash  bool // the power has to fail now
	sure   bool // no fault passes any more
}

func newWorld(t *testing.T, r *rand.Rand) *world {
	n, size := 2+r.Intn(2), 4+r.Intn(6)
	w := &world{t: t, r: r, region: 1 + r.Intn(4), stale: map[int]bool{}, fresh: map[int]bool{}, k: &track{}}
	w.a, _ = disk.New(slices.Repeat([]int{size}, n+1))
	for d := range n {
		x, _ := block.Span(w.a, d, 0, size)
		w.legs = append(w.legs, x)
	}
	if r.Intn(3) > 0 {
		w.log, _ = block.Span(w.a, n, 0, size)
		regionlog.Format(w.log, Regions(size, w.region))
	}
	for range size {
		w.k.candidates, w.k.completed = append(w.k.candidates, []uint64{0}), append(w.k.completed, true)
	}
	w.open()
	return w
}

func (w *world) staleList() []int {
	var l []int
	for k := range len(w.legs) + 1 {
		if w.stale[k] {
			l = append(l, k)
		}
	}
	return l
}

// dealt drops legs that have failed; it reports whether the mirror can go on.
func (w *world) dealt(e api.Errno) bool {
	if e == api.ErrPower {
		return false
	}
	if e != api.ErrLeg || len(w.m.Failed()) == 0 {
		w.t.Fatalf("error %d", e)
	}
	if w.r.Intn(4) == 0 && !w.sure { // a fault that passes: the power fails ahead of any commit
		for d := range len(w.legs) + 1 {
			if w.a.Missing(d) && !w.stale[d] {
				w.a.SetMissing(d, false)
			}
		}
		w.crash = true
		return false
	}
	for _, k := range w.m.Failed() {
		if e := w.m.Drop(k); e != api.OK {
			w.t.Fatalf("Drop(%d): %d", k, e)
		}
		w.stale[k] = true
	}
	return true
}

// readAt reads a sector, and drops legs that fail.
func (w *world) readAt(at int) bool {
	for {
		v, e := w.m.Read(at)
		if e == api.OK {
			w.k.read(w.t, at, v, w.fresh[at])
			delete(w.fresh, at)
			return true
		}
		if !w.dealt(e) {
			return false
		}
	}
}

func (w *world) op() bool {
	at := w.r.Intn(w.m.Size())
	switch n := w.r.Intn(12); {
	case n < 5:
		w.next++
		for {
			e := w.m.Write(at, w.next)
			w.k.write(at, w.next, e)
			if e == api.OK {
				delete(w.fresh, at)
				return true
			}
			if !w.dealt(e) {
				return false
			}
		}
	case n < 7:
		return w.readAt(at)
	case n < 8:
		if e := w.m.Flush(); e != api.OK {
			return w.dealt(e)
		}
		for s := range w.m.Size() {
			if !w.fresh[s] && w.k.completed[s] {
				w.k.candidates[s] = w.k.candidates[s][len(w.k.candidates[s])-1:]
			}
		}
	case n < 10:
		if _, e := w.m.Resync(w.r.Intn(5)); e != api.OK {
			return w.dealt(e)
		}
	default:
		return w.fill()
	}
	return true
}

func (w *world) fill() bool {
	for k := range w.legs {
		if !w.stale[k] || w.a.Missing(k) {
			continue
		}
		if _, e := w.m.Fill(k, w.r.Intn(6)); e != api.OK {
			return w.dealt(e)
		}
		switch e := w.m.Accept(k); e {
		case api.OK:
			delete(w.stale, k)
		case api.ErrState:
		default:
			return w.dealt(e)
		}
	}
	return true
}

// lose lets a leg or the log be missing from now on, if a good leg remains.
func (w *world) lose() {
	k := w.r.Intn(len(w.legs) + 1)
	for other := range w.legs {
		if other != k && !w.stale[other] && !w.a.Missing(other) {
			w.a.SetMissing(k, true)
			return
		}
	}
}

func (w *world) restart() {
	keep := make([]bool, w.a.Unflushed())
	for i := range keep {
		keep[i] = w.r.Intn(2) == 0
	}
	w.a.Restart(keep)
	for at := range w.k.candidates {
		w.fresh[at] = true
	}
}

func (w *world) open() {
	if w.r.Intn(4) == 0 {
		w.lose()
	}
	for d := range len(w.legs) + 1 {
		if w.a.Missing(d) {
			w.stale[d] = true
		}
	}
	m, e := Open(w.legs, w.staleList(), w.log, w.region)
	if e != api.OK {
		w.t.Fatalf("Open: %d", e)
	}
	w.m = m
}

// P21.7
func TestSound(t *testing.T) {
	for seed := range 6000 {
		w := newWorld(t, rand.New(rand.NewSource(int64(seed))))
		for range 5 {
			w.a.Fuse(1 + w.r.Intn(60))
			for range 1 + w.r.Intn(16) {
				if w.r.Intn(12) == 0 {
					w.lose()
				}
				if k := w.r.Intn(len(w.legs)); w.r.Intn(4) == 0 && w.stale[k] {
					w.a.SetMissing(k, false)
				}
				if !w.op() {
					break
				}
			}
			w.restart()
			if w.log != nil && w.r.Intn(3) == 0 && w.a.Missing(len(w.legs)) {
				w.a.SetMissing(len(w.legs), false)
				regionlog.Format(w.log, Regions(len(w.k.candidates), w.region))
				w.stale[len(w.legs)] = true
			}
			w.crash = false
			w.open()
			for at := range w.r.Intn(2) * len(w.k.candidates) {
				if !w.readAt(at) {
					break
				}
			}
			if w.crash {
				w.restart()
				w.crash = false
				w.open()
			}
		}
		w.equal(seed)
	}
}

// equal checks that all good legs are equal when nothing is dirty and all is flushed.
func (w *world) equal(seed int) {
	w.a.Fuse(0)
	w.sure = true
	for {
		_, e := w.m.Resync(100)
		if e == api.OK {
			e = w.m.Flush()
		}
		if e == api.OK {
			break
		}
		w.dealt(e)
	}
	first := w.m.first()
	for k, l := range w.m.legs {
		if l.state == good {
			if same, _ := block.Equal(w.legs[first], w.legs[k], 0, w.m.Size()); !same {
				w.t.Fatalf("seed %d: leg %d is not equal to leg %d", seed, k, first)
			}
		}
	}
}
