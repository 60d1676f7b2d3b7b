package plan

import (
	"slices"

	"volumegroup/api"
	"volumegroup/model"
)

// legsOf returns the names of the legs of a segment, but for one.
func legsOf(s api.Segment, but int) []string {
	var l []string
	for k, a := range s.Areas {
		if k != but {
			l = append(l, a.On)
		}
	}
	return l
}

func isLeg(s api.Segment, k int) bool {
	return within(k, 0, len(s.Areas)-1)
}

// with returns a list of numbers with one more.
func with(l []int, k int) []int {
	i, is := slices.BinarySearch(l, k)
	if is {
		return l
	}
	return slices.Insert(slices.Clone(l), i, k)
}

func (w *work) legOn() {
	name := w.c.Volume
	v := w.shown()
	plain := Plain(*v)
	need(plain || model.Kind(*v) == api.SegMirror, api.ErrKind)
	disks := w.needs(name)
	extents := model.Length(*v)
	if plain {
		w.unused(name)
		need(within(w.c.Chunk, 1, 1024), api.ErrRange)
		w.cover(api.Segment{Length: extents, Kind: api.SegMirror, Areas: volumes(leg(name, 0)), Chunk: w.c.Chunk})
	} else {
		disks = w.needs(legsOf(v.Segments[0], -1)...)
	}
	s := &w.volume(name).Segments[0]
	k := len(s.Areas)
	need(k < api.MaxLegs, api.ErrLimit)
	segments := w.one(extents, disks...)
	if i := slices.Index(s.Stale, k); i >= 0 {
		s.Stale[i] = k + 1 // the log's number
	}
	s.Areas = append(s.Areas, volumes(leg(name, k))...)
	s.Stale = with(s.Stale, k)
	w.add(leg(name, k), true, segments...)
}

func (w *work) legOff() {
	c := w.c
	s := only(w.shown(), api.SegMirror)
	need(isLeg(*s, c.Number), api.ErrRange)
	need(c.Other == "" || !slices.Contains(s.Stale, c.Number), api.ErrStale)
	need(enough(*s, with(s.Stale, c.Number)), api.ErrStale)
	w.act(api.Act{Kind: api.ActSync, Volume: c.Volume})
	if c.Other != "" {
		w.newName(c.Other)
		w.rebase(leg(c.Volume, c.Number), c.Other)
		w.volume(c.Other).Hidden = false
	} else {
		w.forget(leg(c.Volume, c.Number))
	}
	s = &w.any().Segments[0]
	s.Areas = slices.Delete(s.Areas, c.Number, c.Number+1)
	s.Stale = without(s.Stale, c.Number)
	for k := range s.Areas[c.Number:] {
		w.rebase(leg(c.Volume, c.Number+k+1), leg(c.Volume, c.Number+k))
	}
	if len(s.Areas) == 1 {
		w.uncover()
	}
}

// without returns a list of numbers without one, where those behind it go down.
func without(l []int, k int) []int {
	var m []int
	for _, x := range l {
		switch {
		case x < k:
			m = append(m, x)
		case x > k:
			m = append(m, x-1)
		}
	}
	return m
}

// uncover puts the only leg of the mirror of the command into its place.
func (w *work) uncover() {
	name := w.c.Volume
	mirror := *w.any()
	if s := mirror.Segments[0]; s.Log != "" {
		w.forget(s.Log)
	}
	only := *w.volume(leg(name, 0))
	w.take(only.Name)
	i := w.index(name)
	only.Hidden, only.Tags, only.ID, only.ReadOnly = false, mirror.Tags, mirror.ID, mirror.ReadOnly
	w.g.Volumes[i] = only
	w.rebase(leg(name, 0), name)
}

func (w *work) legNew() {
	v := w.shown()
	s := only(v, api.SegMirror, api.SegParity)
	k := w.c.Number
	need(isLeg(*s, k), api.ErrRange)
	x := w.volume(s.Areas[k].On)
	need(Simple(*x), api.ErrKind)
	stale := with(s.Stale, k)
	need(enough(*s, stale), api.ErrStale)
	segments := w.one(model.Length(*x), w.needs(legsOf(*s, k)...)...)
	x.Segments = nil
	appendSegments(x, segments)
	s.Stale = stale
}

// staleSegment returns the segment of the command whose leg or log it names.
func (w *work) staleSegment() *api.Segment {
	s := only(w.any(), api.SegMirror, api.SegParity)
	need(isLeg(*s, w.c.Number) || s.Log != "" && w.c.Number == len(s.Areas), api.ErrRange)
	return s
}

func (w *work) stale() {
	s := w.staleSegment()
	need(!slices.Contains(s.Stale, w.c.Number), api.ErrTwice)
	stale := with(s.Stale, w.c.Number)
	need(enough(*s, stale), api.ErrStale)
	s.Stale = stale
}

func (w *work) fresh() {
	s := w.staleSegment()
	i := slices.Index(s.Stale, w.c.Number)
	need(i >= 0, api.ErrNone)
	s.Stale = slices.Delete(s.Stale, i, i+1)
}

// segment returns the segment of the command, which has to be of a kind.
func (w *work) segment(kind int) *api.Segment {
	v := w.any()
	need(within(w.c.Number, 0, len(v.Segments)-1), api.ErrRange)
	s := &v.Segments[w.c.Number]
	need(s.Kind == kind, api.ErrKind)
	return s
}

func (w *work) move() {
	s := w.segment(api.SegLinear)
	r := w.request(1, 1, s.Length)
	r.Policy = api.Contiguous
	l := w.allocate(r, s.Areas[0].On)[0]
	s.Kind = api.SegMove
	s.Areas = append(s.Areas, l[0].Areas[0])
}

func (w *work) step() {
	s := w.segment(api.SegMove)
	need(s.Done < s.Length, api.ErrStep)
	s.Done++
}

func (w *work) finish() {
	s := w.segment(api.SegMove)
	need(s.Done == s.Length, api.ErrStep)
	s.Kind, s.Areas, s.Done = api.SegLinear, s.Areas[1:], 0
}

func (w *work) abort() {
	s := w.segment(api.SegMove)
	old, new := s.Areas[0], s.Areas[1]
	if s.Done == 0 {
		s.Kind, s.Areas = api.SegLinear, []api.Area{old}
		return
	}
	s.Areas = []api.Area{new, old}
	if left := s.Length - s.Done; left > 0 {
		rest := api.Segment{Start: s.Start + s.Done, Length: left, Kind: api.SegLinear, Areas: []api.Area{{On: old.On, Start: old.Start + s.Done}}}
		s.Length, s.Done = s.Done, 0
		v := w.any()
		v.Segments = slices.Insert(v.Segments, w.c.Number+1, rest)
		return
	}
	s.Done = 0
}
