package plan

import (
	"volumegroup/api"
	"volumegroup/cachemeta"
	"volumegroup/model"
	"volumegroup/regionlog"
	"volumegroup/thinmeta"
)

func (w *work) linear() {
	w.newVolume()
	w.add(w.c.Volume, false, w.one(w.c.Extents)...)
	w.zero(w.c.Volume, 0, w.c.Extents)
}

// stripes allocates a striped segment.
func (w *work) stripes(n, extents, chunk int, near string) api.Segment {
	need(extents%n == 0, api.ErrSize)
	r := w.request(1, n, extents/n)
	r.Near = near
	return api.Segment{Length: extents, Kind: api.SegStriped, Areas: firsts(w.allocate(r)), Chunk: chunk}
}

func (w *work) striped() {
	w.newVolume()
	need(within(w.c.Parts, 2, api.MaxLegs), api.ErrRange)
	w.add(w.c.Volume, false, w.stripes(w.c.Parts, w.c.Extents, w.c.Chunk, ""))
	w.zero(w.c.Volume, 0, w.c.Extents)
}

// legNames returns the names of the first legs of the volume of the command.
func (w *work) legNames(n int) []string {
	var l []string
	for k := range n {
		l = append(l, leg(w.c.Volume, k))
	}
	return l
}

func (w *work) mirror() {
	c := w.c
	w.newVolume()
	need(within(c.Parts, 2, api.MaxLegs) && within(c.Chunk, 1, 1024) && within(c.Number, 0, 1), api.ErrRange)
	legs := w.allocate(w.request(c.Parts, 1, c.Extents))
	s := api.Segment{Length: c.Extents, Kind: api.SegMirror, Areas: volumes(w.legNames(c.Parts)...), Chunk: c.Chunk}
	regions := (c.Extents*w.g.Extent + c.Chunk - 1) / c.Chunk
	var log []api.Segment
	if c.Number == 1 {
		r := w.request(1, 1, w.extentsFor(regionlog.Words(regions)))
		r.Policy = api.Normal
		log = w.allocate(r)[0]
		s.Log = part(c.Volume, partLog)
	}
	w.add(c.Volume, false, s)
	for k, l := range legs {
		w.add(leg(c.Volume, k), true, l...)
		w.zero(leg(c.Volume, k), 0, c.Extents)
	}
	if c.Number == 1 {
		w.add(s.Log, true, log...)
		w.act(api.Act{Kind: api.ActLog, Volume: s.Log, Number: regions})
	}
}

func (w *work) parity() {
	c := w.c
	w.newVolume()
	need(within(c.Parts, 3, api.MaxLegs), api.ErrRange)
	need(c.Extents%(c.Parts-1) == 0, api.ErrSize)
	legs := w.allocate(w.request(c.Parts, 1, c.Extents/(c.Parts-1)+w.extentsFor(16)))
	w.add(c.Volume, false, api.Segment{Length: c.Extents, Kind: api.SegParity, Areas: volumes(w.legNames(c.Parts)...), Chunk: c.Chunk})
	for k, l := range legs {
		w.add(leg(c.Volume, k), true, l...)
	}
	w.act(api.Act{Kind: api.ActParity, Volume: c.Volume})
}

func (w *work) pool() {
	c := w.c
	w.newVolume()
	need(within(c.Number, 1, api.MaxExtents) && within(c.Chunk, 1, api.MaxChunk), api.ErrRange)
	blocks := c.Extents * w.g.Extent / c.Chunk
	need(within(blocks, 1, api.MaxData) && c.Number*w.g.Extent >= thinmeta.Size(blocks), api.ErrSize)
	data := w.one(c.Extents)
	meta := w.one(c.Number)
	parts := []string{part(c.Volume, partMeta), part(c.Volume, partData)}
	w.add(c.Volume, false, api.Segment{Length: c.Extents, Kind: api.SegPool, Areas: volumes(parts...), Chunk: c.Chunk})
	w.add(parts[0], true, meta...)
	w.add(parts[1], true, data...)
	w.act(api.Act{Kind: api.ActPool, Volume: c.Volume, Number: blocks, Count: c.Chunk})
}

// device returns the least number that no thin volume of a pool has.
func (w *work) device(pool string) int {
	used := map[int]bool{}
	for _, v := range w.g.Volumes {
		if model.Kind(v) == api.SegThin && v.Segments[0].Pool == pool {
			used[v.Segments[0].Device] = true
		}
	}
	n := 1
	for used[n] {
		n++
	}
	return n
}

func (w *work) addThin(pool string, extents int) int {
	n := w.device(pool)
	w.add(w.c.Volume, false, api.Segment{Length: extents, Kind: api.SegThin, Pool: pool, Device: n})
	return n
}

func (w *work) thin() {
	w.newVolume()
	only(w.volume(w.c.Other), api.SegPool)
	n := w.addThin(w.c.Other, w.c.Extents)
	w.act(api.Act{Kind: api.ActThin, Volume: w.c.Other, Number: n})
}

func (w *work) snapshot() {
	w.newName(w.c.Volume)
	s := *only(w.volume(w.c.Other), api.SegThin)
	n := w.addThin(s.Pool, s.Length)
	w.act(api.Act{Kind: api.ActSnap, Volume: s.Pool, Number: n, Other: s.Device})
}

// cover hides a plain volume as the leg 0 of a new volume in its place, which gets its ReadOnly.
func (w *work) cover(s api.Segment) {
	name := w.c.Volume
	w.rebase(name, leg(name, 0))
	v := w.volume(leg(name, 0))
	v.Hidden = true
	readOnly := v.ReadOnly
	v.ReadOnly = false
	w.add(name, false, s)
	w.volume(name).ReadOnly = readOnly
}

func (w *work) unused(name string) {
	need(len(model.Users(w.present, name)) == 0, api.ErrUse)
}

func (w *work) cache() {
	c := w.c
	v := w.shown()
	need(Plain(*v), api.ErrKind)
	w.unused(c.Volume)
	need(within(c.Extents, 1, api.MaxExtents) && within(c.Chunk, 1, api.MaxChunk) && within(c.Mode, api.WriteThrough, api.WriteBack), api.ErrRange)
	slots := min(c.Extents*w.g.Extent/c.Chunk, api.MaxSlots)
	need(slots > 0, api.ErrSize)
	parts := []string{leg(c.Volume, 0), part(c.Volume, partData), part(c.Volume, partMeta)}
	s := api.Segment{Length: model.Length(*v), Kind: api.SegCache, Areas: volumes(parts...), Chunk: c.Chunk, Mode: c.Mode}
	w.cover(s)
	data := w.one(c.Extents)
	meta := w.one(w.extentsFor(cachemeta.Size(slots)))
	w.add(parts[1], true, data...)
	w.add(parts[2], true, meta...)
	w.act(api.Act{Kind: api.ActCache, Volume: c.Volume, Number: slots, Count: c.Chunk})
}

func (w *work) uncache() {
	name := w.c.Volume
	v := w.shown()
	s := *only(v, api.SegCache)
	readOnly := v.ReadOnly
	w.act(api.Act{Kind: api.ActDetach, Volume: name})
	w.take(name)
	w.forget(s.Areas[1].On)
	w.forget(s.Areas[2].On)
	w.rebase(s.Areas[0].On, name)
	v = w.volume(name)
	v.Hidden, v.ReadOnly = false, readOnly
}
