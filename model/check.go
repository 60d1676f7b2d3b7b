package model

import (
	"volumegroup/api"
	"volumegroup/names"
)

const (
	maxNext   = 1 << 30
	maxLength = api.MaxExtents * api.MaxDisks
	maxRegion = 1024
	legHead   = 16 // sectors of a parity leg that are not data
)

// shape says what the segments of a kind look like: which fields they use, and how.
type shape struct {
	least, most int  // areas
	volumes     bool // the areas are volumes
	chunk       int  // the greatest Chunk; 0 if there is none
	divides     bool // Chunk divides Extent
	stale       bool
	log         bool
	thin        bool // Pool and Device
	mode        bool
	done        bool
	simple      bool // a volume may have several such segments
}

func shapes() map[int]shape {
	return map[int]shape{
		api.SegLinear:  {least: 1, most: 1, simple: true},
		api.SegStriped: {least: 2, most: api.MaxLegs, chunk: api.MaxExtent, divides: true, simple: true},
		api.SegMirror:  {least: 2, most: api.MaxLegs, volumes: true, chunk: maxRegion, stale: true, log: true},
		api.SegParity:  {least: 3, most: api.MaxLegs, volumes: true, chunk: api.MaxExtent, divides: true, stale: true},
		api.SegPool:    {least: 2, most: 2, volumes: true, chunk: api.MaxChunk},
		api.SegThin:    {thin: true},
		api.SegCache:   {least: 3, most: 3, volumes: true, chunk: api.MaxChunk, mode: true},
		api.SegMove:    {least: 2, most: 2, done: true, simple: true},
		api.SegZero:    {simple: true},
		api.SegError:   {simple: true},
	}
}

// check has the group that is checked, with its disks and volumes by name.
type check struct {
	g       api.Group
	disks   map[string]api.Disk
	volumes map[string]api.Volume
	shapes  map[int]shape
}

// Check returns the place and the error of the first rule that is broken.
func Check(g api.Group) (string, api.Errno) {
	c := &check{g, map[string]api.Disk{}, map[string]api.Volume{}, shapes()}
	for _, rule := range []func() (string, api.Errno){c.group, c.allDisks, c.allVolumes, c.forms, c.references, c.sizes, c.overlaps, c.thins, c.uses} {
		if place, e := rule(); e != api.OK {
			return place, e
		}
	}
	return "", api.OK
}

func within(n, least, most int) bool {
	return n >= least && n <= most
}

func (c *check) group() (string, api.Errno) {
	g := c.g
	switch {
	case !names.Visible(g.Name):
		return "", api.ErrName
	case !within(g.Seq, 0, api.MaxSeq) || !within(g.Extent, 1, api.MaxExtent) || !within(g.Next, 0, maxNext):
		return "", api.ErrRange
	case len(g.Disks) > api.MaxDisks || len(g.Volumes) > api.MaxVolumes || len(g.History) > api.MaxHistory:
		return "", api.ErrLimit
	}
	if e := tags(g.Tags); e != api.OK {
		return "", e
	}
	for _, r := range g.History {
		if !names.Visible(r.Name) || !within(r.Seq, 0, api.MaxSeq) {
			return "", api.ErrForm
		}
	}
	return "", api.OK
}

func tags(l []string) api.Errno {
	if len(l) > api.MaxTags {
		return api.ErrLimit
	}
	for i, t := range l {
		if !names.Tag(t) || i > 0 && l[i-1] >= t {
			return api.ErrForm
		}
	}
	return api.OK
}

func (c *check) allDisks() (string, api.Errno) {
	ids := map[uint64]bool{}
	for _, d := range c.g.Disks {
		_, twice := c.disks[d.Name]
		switch {
		case !names.Visible(d.Name):
			return d.Name, api.ErrName
		case twice || ids[d.ID]:
			return d.Name, api.ErrTwice
		case !within(d.First, 0, api.MaxSectors) || !within(d.Extents, 0, api.MaxExtents) || d.First+d.Extents*c.g.Extent > api.MaxSectors:
			return d.Name, api.ErrRange
		}
		if e := tags(d.Tags); e != api.OK {
			return d.Name, e
		}
		c.disks[d.Name], ids[d.ID] = d, true
	}
	return "", api.OK
}

func (c *check) allVolumes() (string, api.Errno) {
	ids := map[uint64]bool{}
	for _, v := range c.g.Volumes {
		_, twice := c.volumes[v.Name]
		switch {
		case v.Hidden && !names.Hidden(v.Name) || !v.Hidden && !names.Visible(v.Name):
			return v.Name, api.ErrName
		case twice || ids[v.ID]:
			return v.Name, api.ErrTwice
		case !within(len(v.Segments), 1, api.MaxSegments):
			return v.Name, api.ErrLimit
		}
		if e := tags(v.Tags); e != api.OK {
			return v.Name, e
		}
		c.volumes[v.Name], ids[v.ID] = v, true
	}
	return "", api.OK
}

// each looks at all segments with a rule.
func (c *check) each(rule func(v api.Volume, i int) api.Errno) (string, api.Errno) {
	for _, v := range c.g.Volumes {
		for i := range v.Segments {
			if e := rule(v, i); e != api.OK {
				return v.Name, e
			}
		}
	}
	return "", api.OK
}

func (c *check) forms() (string, api.Errno) {
	return c.each(func(v api.Volume, i int) api.Errno {
		s := v.Segments[i]
		start := 0
		for _, ahead := range v.Segments[:i] {
			start += ahead.Length
		}
		x, known := c.shapes[s.Kind]
		switch {
		case s.Start != start || !within(s.Length, 1, maxLength) || !known:
			return api.ErrForm
		case !c.areaForm(x, s) || !c.fieldForm(x, s) || !staleForm(x, s) || s.Length%divisor(s) != 0:
			return api.ErrForm
		case len(v.Segments) > 1 && !x.simple:
			return api.ErrKind
		}
		return api.OK
	})
}

func (c *check) areaForm(x shape, s api.Segment) bool {
	if !within(len(s.Areas), x.least, x.most) {
		return false
	}
	for _, a := range s.Areas {
		if a.Volume != x.volumes || a.Volume && a.Start != 0 {
			return false
		}
	}
	return true
}

func (c *check) fieldForm(x shape, s api.Segment) bool {
	chunk := s.Chunk == 0
	if x.chunk > 0 {
		chunk = within(s.Chunk, 1, x.chunk) && (!x.divides || c.g.Extent%s.Chunk == 0)
	}
	device := s.Device == 0 && s.Pool == ""
	if x.thin {
		device = within(s.Device, 1, api.MaxThinID)
	}
	mode := s.Mode == 0
	if x.mode {
		mode = within(s.Mode, api.WriteThrough, api.WriteBack)
	}
	done := s.Done == 0
	if x.done {
		done = within(s.Done, 0, s.Length)
	}
	return chunk && device && mode && done && (x.log || s.Log == "")
}

func staleForm(x shape, s api.Segment) bool {
	if !x.stale {
		return len(s.Stale) == 0
	}
	greatest := len(s.Areas) - 1
	if s.Log != "" {
		greatest++
	}
	for i, k := range s.Stale {
		if !within(k, 0, greatest) || i > 0 && s.Stale[i-1] >= k {
			return false
		}
	}
	return true
}

// divisor is what has to divide the length of a segment whose areas have the right number.
func divisor(s api.Segment) int {
	switch s.Kind {
	case api.SegStriped:
		return len(s.Areas)
	case api.SegParity:
		return len(s.Areas) - 1
	}
	return 1
}

func (c *check) references() (string, api.Errno) {
	return c.each(func(v api.Volume, i int) api.Errno {
		s := v.Segments[i]
		switch {
		case !c.exist(s):
			return api.ErrNone
		case !c.onDisks(s):
			return api.ErrRange
		case !partNames(v.Name, s):
			return api.ErrName
		case !c.partKinds(s):
			return api.ErrKind
		}
		return api.OK
	})
}

func (c *check) exist(s api.Segment) bool {
	for _, a := range s.Areas {
		_, disk := c.disks[a.On]
		_, volume := c.volumes[a.On]
		if a.Volume && !volume || !a.Volume && !disk {
			return false
		}
	}
	_, log := c.volumes[s.Log]
	_, pool := c.volumes[s.Pool]
	return (log || s.Log == "") && (pool || s.Kind != api.SegThin)
}

func (c *check) onDisks(s api.Segment) bool {
	n := areaLength(s)
	for _, a := range s.Areas {
		if !a.Volume && !within(a.Start, 0, c.disks[a.On].Extents-n) {
			return false
		}
	}
	return true
}

// partNames reports whether the parts of a volume have the names that they must have.
func partNames(name string, s api.Segment) bool {
	var want []string
	leg := func(k int) {
		n, _ := names.Leg(name, k)
		want = append(want, n)
	}
	part := func(kind int) {
		n, _ := names.Part(name, kind)
		want = append(want, n)
	}
	switch s.Kind {
	case api.SegMirror, api.SegParity:
		for k := range s.Areas {
			leg(k)
		}
	case api.SegPool:
		part(3)
		part(2)
	case api.SegCache:
		leg(0)
		part(2)
		part(3)
	}
	for k, n := range want {
		if n == "" || s.Areas[k].On != n {
			return false
		}
	}
	log, _ := names.Part(name, 1)
	return s.Log == "" || s.Log == log
}

func (c *check) partKinds(s api.Segment) bool {
	if s.Kind == api.SegThin && Kind(c.volumes[s.Pool]) != api.SegPool {
		return false
	}
	for _, n := range parts(s) {
		if k := Kind(c.volumes[n]); k == api.SegThin || k == api.SegPool {
			return false
		}
	}
	return true
}

func (c *check) sizes() (string, api.Errno) {
	return c.each(func(v api.Volume, i int) api.Errno {
		s := v.Segments[i]
		var lengths []int
		for _, a := range s.Areas {
			if a.Volume {
				lengths = append(lengths, Length(c.volumes[a.On]))
			}
		}
		if !c.fit(s, lengths) || s.Log != "" && Length(c.volumes[s.Log])*c.g.Extent < c.logSectors(s) {
			return api.ErrSize
		}
		return api.OK
	})
}

// fit reports whether the volumes in the areas of a segment have lengths that fit.
func (c *check) fit(s api.Segment, lengths []int) bool {
	switch s.Kind {
	case api.SegMirror:
		for _, n := range lengths {
			if n != s.Length {
				return false
			}
		}
	case api.SegParity:
		for _, n := range lengths {
			if n != lengths[0] || n*c.g.Extent < s.Length/divisor(s)*c.g.Extent+legHead {
				return false
			}
		}
	case api.SegPool:
		return lengths[1] == s.Length
	case api.SegCache:
		return lengths[0] == s.Length
	}
	return true
}

func (c *check) logSectors(s api.Segment) int {
	regions := (s.Length*c.g.Extent + s.Chunk - 1) / s.Chunk
	return 1 + (regions+63)/64
}

func (c *check) overlaps() (string, api.Errno) {
	used := map[string][]bool{}
	for _, d := range c.g.Disks {
		used[d.Name] = make([]bool, d.Extents)
	}
	return c.each(func(v api.Volume, i int) api.Errno {
		s := v.Segments[i]
		for _, a := range s.Areas {
			if !a.Volume && !take(used[a.On][a.Start:a.Start+areaLength(s)]) {
				return api.ErrOverlap
			}
		}
		return api.OK
	})
}

// take marks extents as used; it reports whether none was.
func take(l []bool) bool {
	for i, is := range l {
		if is {
			return false
		}
		l[i] = true
	}
	return true
}

func (c *check) thins() (string, api.Errno) {
	type device struct {
		pool   string
		number int
	}
	seen := map[device]bool{}
	return c.each(func(v api.Volume, i int) api.Errno {
		s := v.Segments[i]
		d := device{s.Pool, s.Device}
		if s.Kind == api.SegThin && seen[d] {
			return api.ErrTwice
		}
		seen[d] = true
		return api.OK
	})
}

func (c *check) uses() (string, api.Errno) {
	count, inside := map[string]int{}, map[string]bool{}
	for _, v := range c.g.Volumes {
		for _, s := range v.Segments {
			for _, n := range parts(s) {
				inside[n] = true
			}
			for _, n := range usedBy(s) {
				count[n]++
			}
		}
	}
	for _, v := range c.g.Volumes {
		if v.Hidden && count[v.Name] != 1 || !v.Hidden && inside[v.Name] {
			return v.Name, api.ErrUse
		}
	}
	return "", api.OK
}
