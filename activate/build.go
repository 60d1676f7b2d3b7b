package activate

import (
	"slices"

	"volumegroup/api"
	"volumegroup/block"
	"volumegroup/cachevol"
	"volumegroup/clone"
	"volumegroup/disk"
	"volumegroup/mirror"
	"volumegroup/model"
	"volumegroup/parityvol"
	"volumegroup/relocate"
	"volumegroup/stripe"
	"volumegroup/thinpool"
)

// place is a segment of a volume.
type place struct {
	volume  string
	segment int
}

// devices is what is open: the devices of the volumes, the objects that they are, and the errors of the others.
type devices struct {
	devices map[string]block.Device
	objects map[string]any
	movers  map[place]*relocate.Mover
	errors  map[string]api.Errno
}

// Build opens the devices of a description.
func Build(a *disk.Array, g api.Group) *Stack {
	s := &Stack{array: a, group: clone.Group(g), gone: map[uint64]bool{}}
	s.open()
	return s
}

// open opens the devices of the present description.
func (s *Stack) open() {
	s.devices = devices{map[string]block.Device{}, map[string]any{}, map[place]*relocate.Mover{}, map[string]api.Errno{}}
	s.present = presentDisks(s.array, s.group)
	if _, e := model.Check(s.group); e != api.OK {
		for _, v := range s.group.Volumes {
			s.errors[v.Name] = api.ErrForm
		}
		return
	}
	for _, name := range model.Order(s.group) {
		v, _ := model.Volume(s.group, name)
		x, e := s.openVolume(v)
		if e != api.OK {
			s.errors[name] = e
			continue
		}
		if v.ReadOnly && !v.Hidden && x != nil {
			x = block.Reader(x)
		}
		s.devices.devices[name] = x
	}
}

// openVolume opens a volume of a valid description; a pool has no device.
func (s *Stack) openVolume(v api.Volume) (block.Device, api.Errno) {
	switch model.Kind(v) {
	case api.SegMirror:
		return s.openMirror(v)
	case api.SegParity:
		return s.openParity(v)
	case api.SegPool:
		return nil, s.openPool(v)
	case api.SegThin:
		return s.openThin(v)
	case api.SegCache:
		return s.openCache(v)
	}
	var parts []block.Device
	for i, seg := range v.Segments {
		x, e := s.openSegment(s.group, seg, s.present)
		if e != api.OK {
			return nil, e
		}
		if m, ok := x.(*relocate.Mover); ok {
			s.movers[place{v.Name, i}] = m
		}
		parts = append(parts, x)
	}
	return block.Concat(parts), api.OK
}

// span returns the device of some extents of a disk.
func (s *Stack) span(g api.Group, a api.Area, extents int, present map[uint64]member) (block.Device, api.Errno) {
	d, ok := model.Disk(g, a.On)
	m, is := present[d.ID]
	if !ok || !is || a.Volume {
		return nil, api.ErrMissing
	}
	if a.Start < 0 || a.Start > d.Extents || extents > d.Extents-a.Start {
		return nil, api.ErrRange
	}
	return block.Span(s.array, m.number, d.First+a.Start*g.Extent, extents*g.Extent)
}

// openSegment opens a segment that is on disks, or nowhere.
func (s *Stack) openSegment(g api.Group, seg api.Segment, present map[uint64]member) (block.Device, api.Errno) {
	size := seg.Length * g.Extent
	each := seg.Length
	switch seg.Kind {
	case api.SegZero:
		return block.Zero(size), api.OK
	case api.SegError:
		return block.Fail(size), api.OK
	case api.SegStriped:
		each /= max(len(seg.Areas), 1)
	}
	var l []block.Device
	for _, a := range seg.Areas {
		x, e := s.span(g, a, each, present)
		if e != api.OK {
			return nil, e
		}
		l = append(l, x)
	}
	switch {
	case seg.Kind == api.SegStriped:
		return stripe.New(l, seg.Chunk)
	case seg.Kind == api.SegMove && len(l) == 2:
		m, e := relocate.Open(l[0], l[1], g.Extent, seg.Done)
		if e != api.OK {
			return nil, e
		}
		return m, api.OK
	case len(l) == 1:
		return l[0], api.OK
	}
	return nil, api.ErrRange
}

// opened returns the device of a volume that is open. A volume that was recorded since the devices were opened has none.
func (s *Stack) opened(name string) (block.Device, api.Errno) {
	if e := s.errors[name]; e != api.OK {
		return nil, e
	}
	x := s.devices.devices[name]
	if x == nil {
		return nil, api.ErrNone
	}
	return x, api.OK
}

// legs returns the devices of the legs of a segment. One that cannot be opened has to be stale.
func (s *Stack) legs(seg api.Segment) ([]block.Device, api.Errno) {
	var l []block.Device
	for k, a := range seg.Areas {
		x, e := s.opened(a.On)
		if e != api.OK {
			if !slices.Contains(seg.Stale, k) {
				return nil, e
			}
			x = block.Fail(model.Sectors(s.group, a.On))
		}
		l = append(l, x)
	}
	return l, api.OK
}

func (s *Stack) openMirror(v api.Volume) (block.Device, api.Errno) {
	seg := v.Segments[0]
	legs, e := s.legs(seg)
	if e != api.OK {
		return nil, e
	}
	var log block.Device
	if seg.Log != "" && !slices.Contains(seg.Stale, len(legs)) {
		if log, e = s.opened(seg.Log); e != api.OK {
			return nil, e
		}
	}
	m, e := mirror.Open(legs, seg.Stale, log, seg.Chunk)
	if e != api.OK {
		return nil, e
	}
	s.objects[v.Name] = m
	return m, api.OK
}

func (s *Stack) openParity(v api.Volume) (block.Device, api.Errno) {
	seg := v.Segments[0]
	legs, e := s.legs(seg)
	if e != api.OK {
		return nil, e
	}
	p, e := parityvol.Open(legs, seg.Stale, seg.Chunk)
	if e != api.OK {
		return nil, e
	}
	x, e := block.Window(p, 0, seg.Length*s.group.Extent)
	if e != api.OK {
		return nil, e
	}
	s.objects[v.Name] = p
	return x, api.OK
}

func (s *Stack) openPool(v api.Volume) api.Errno {
	areas := v.Segments[0].Areas
	meta, e := s.opened(areas[0].On)
	if e != api.OK {
		return e
	}
	data, e := s.opened(areas[1].On)
	if e != api.OK {
		return e
	}
	p, e := thinpool.Open(meta, data)
	if e == api.OK {
		s.objects[v.Name] = p
	}
	return e
}

func (s *Stack) openThin(v api.Volume) (block.Device, api.Errno) {
	seg := v.Segments[0]
	if e := s.errors[seg.Pool]; e != api.OK {
		return nil, e
	}
	p, ok := s.objects[seg.Pool].(*thinpool.Pool)
	if !ok {
		return nil, api.ErrKind
	}
	return p.Thin(seg.Device, seg.Length*s.group.Extent)
}

func (s *Stack) openCache(v api.Volume) (block.Device, api.Errno) {
	seg := v.Segments[0]
	var l []block.Device
	for _, a := range seg.Areas {
		x, e := s.opened(a.On)
		if e != api.OK {
			return nil, e
		}
		l = append(l, x)
	}
	c, e := cachevol.Open(l[0], l[1], l[2], seg.Mode)
	if e != api.OK {
		return nil, e
	}
	s.objects[v.Name] = c
	return c, api.OK
}
