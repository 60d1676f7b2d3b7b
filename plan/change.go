package plan

import (
	"slices"

	"volumegroup/api"
	"volumegroup/clone"
	"volumegroup/model"
	"volumegroup/names"
	"volumegroup/space"
)

// appendSegments puts segments behind those of a volume.
func appendSegments(v *api.Volume, l []api.Segment) {
	start := model.Length(*v)
	for _, s := range l {
		s.Start = start
		start += s.Length
		v.Segments = append(v.Segments, s)
	}
}

func (w *work) extend() {
	c := w.c
	v := w.shown()
	need(within(c.Extents, 1, api.MaxExtents), api.ErrRange)
	from := model.Sectors(w.g, c.Volume)
	if model.Kind(*v) == api.SegThin {
		s := &v.Segments[0]
		s.Length += c.Extents
		w.act(api.Act{Kind: api.ActTrim, Volume: s.Pool, Number: s.Device, From: from})
		return
	}
	need(Plain(*v), api.ErrKind)
	last := v.Segments[len(v.Segments)-1]
	if last.Kind == api.SegStriped {
		appendSegments(v, []api.Segment{w.stripes(len(last.Areas), c.Extents, last.Chunk, c.Volume)})
	} else {
		r := w.request(1, 1, c.Extents)
		r.Near = c.Volume
		appendSegments(v, w.allocate(r)[0])
	}
	w.zero(c.Volume, from, c.Extents)
}

// upTo returns the segments of the first extents of a volume.
func upTo(v api.Volume, extents int) []api.Segment {
	var l []api.Segment
	for _, s := range clone.Segments(v.Segments) {
		if s.Start >= extents {
			break
		}
		s.Length = min(s.Length, extents-s.Start)
		need(s.Kind != api.SegStriped || s.Length%len(s.Areas) == 0, api.ErrSize)
		l = append(l, s)
	}
	return l
}

// from returns the segments of the extents of a volume behind the first ones.
func from(v api.Volume, extents int) []api.Segment {
	var l []api.Segment
	for _, s := range clone.Segments(v.Segments) {
		if s.Start+s.Length <= extents {
			continue
		}
		if cut := extents - s.Start; cut > 0 {
			s.Length -= cut
			for i := range s.Areas {
				s.Areas[i].Start += inArea(s, cut)
			}
		}
		l = append(l, s)
	}
	return l
}

// inArea returns how many of so many extents of a segment are in each area.
func inArea(s api.Segment, extents int) int {
	if s.Kind == api.SegStriped {
		return extents / len(s.Areas)
	}
	return extents
}

func (w *work) shrink() {
	v := w.shown()
	thin := model.Kind(*v) == api.SegThin
	need(thin || Plain(*v), api.ErrKind)
	need(within(w.c.Extents, 1, model.Length(*v)-1), api.ErrRange)
	v.Segments = upTo(*v, w.c.Extents)
}

// retire takes a volume away, and remembers it in the history.
func (w *work) retire(name string) {
	w.unused(name)
	v := *w.volume(name)
	w.forget(name)
	w.g.History = append(w.g.History, api.Removed{Name: v.Name, ID: v.ID, Seq: w.g.Seq + 1})
	if n := len(w.g.History) - api.MaxHistory; n > 0 {
		w.g.History = w.g.History[n:]
	}
}

func (w *work) remove() {
	v := *w.shown()
	w.retire(w.c.Volume)
	if model.Kind(v) == api.SegThin {
		w.actBehind(api.Act{Kind: api.ActDrop, Volume: v.Segments[0].Pool, Number: v.Segments[0].Device})
	}
}

func (w *work) rename() {
	w.shown()
	g, e := Rename(w.g, w.c.Volume, w.c.Other)
	check(e)
	w.g = g
}

func (w *work) readOnly() {
	w.shown().ReadOnly = w.c.Number == 1
}

// disk returns the disk of the command.
func (w *work) disk() *api.Disk {
	i := slices.IndexFunc(w.g.Disks, func(d api.Disk) bool { return d.Name == w.c.Disk.Name })
	need(i >= 0, api.ErrNone)
	return &w.g.Disks[i]
}

// tags returns the tags of the volume of the command, or of its disk.
func (w *work) tags() *[]string {
	if w.c.Volume == "" {
		return &w.disk().Tags
	}
	return &w.any().Tags
}

func (w *work) tag() {
	l := w.tags()
	need(names.Tag(w.c.Tag), api.ErrForm)
	i, is := slices.BinarySearch(*l, w.c.Tag)
	need(!is, api.ErrTwice)
	*l = slices.Insert(*l, i, w.c.Tag)
}

func (w *work) untag() {
	l := w.tags()
	i := slices.Index(*l, w.c.Tag)
	need(i >= 0, api.ErrNone)
	*l = slices.Delete(*l, i, i+1)
}

func (w *work) closed() {
	w.disk().Closed = w.c.Number == 1
}

func (w *work) diskAdd() {
	d := w.c.Disk
	need(!slices.ContainsFunc(w.g.Disks, func(x api.Disk) bool { return x.Name == d.Name }), api.ErrTwice)
	d.Closed, d.Missing, d.ID = false, false, names.Identity(w.g.ID, w.g.Next)
	d.Tags = slices.Clone(d.Tags)
	w.g.Next++
	w.g.Disks = append(w.g.Disks, d)
	w.act(api.Act{Kind: api.ActLabel, Volume: d.Name, Number: w.c.Number, From: w.c.Extents})
}

func (w *work) diskRemove() {
	name := w.disk().Name
	used, _ := space.Used(w.present, name)
	need(len(used) == 0, api.ErrUse)
	need(len(w.g.Disks) > 1, api.ErrState)
	w.g.Disks = slices.DeleteFunc(w.g.Disks, func(d api.Disk) bool { return d.Name == name })
	w.actBehind(api.Act{Kind: api.ActErase, Volume: name})
}

func (w *work) cut() {
	c := w.c
	v := w.shown()
	need(Plain(*v), api.ErrKind)
	need(within(c.Number, 1, model.Length(*v)-1), api.ErrRange)
	w.newName(c.Other)
	rest := from(*v, c.Number)
	v.Segments = upTo(*v, c.Number)
	w.add(c.Other, false, rest...)
}

func (w *work) join() {
	v := w.shown()
	other := *w.volume(w.c.Other)
	need(Plain(*v) && Plain(other) && v.Name != other.Name, api.ErrKind)
	w.unused(other.Name)
	appendSegments(v, other.Segments)
	w.retire(other.Name)
}
