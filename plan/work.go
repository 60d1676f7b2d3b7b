package plan

import (
	"slices"
	"strconv"

	"volumegroup/allocate"
	"volumegroup/api"
	"volumegroup/clone"
	"volumegroup/model"
	"volumegroup/names"
)

// work is a command with the present description, the next one as far as it has come, the acts, and the extents that
// were allocated so far.
type work struct {
	present       api.Group
	g             api.Group
	c             api.Command
	ahead, behind []api.Act
	taken         []api.Segment
}

func (w *work) act(a api.Act) {
	w.ahead = append(w.ahead, a)
}

func (w *work) actBehind(a api.Act) {
	w.behind = append(w.behind, a)
}

// index returns the number of a volume in the next description.
func (w *work) index(name string) int {
	return slices.IndexFunc(w.g.Volumes, func(v api.Volume) bool { return v.Name == name })
}

// volume returns a volume of the next description.
func (w *work) volume(name string) *api.Volume {
	i := w.index(name)
	need(i >= 0, api.ErrNone)
	return &w.g.Volumes[i]
}

// any returns the volume of the command, hidden or not.
func (w *work) any() *api.Volume {
	return w.volume(w.c.Volume)
}

// shown returns the volume of the command, which must not be hidden.
func (w *work) shown() *api.Volume {
	v := w.any()
	need(!v.Hidden, api.ErrKind)
	return v
}

// only returns the single segment of a volume of one of these kinds.
func only(v *api.Volume, kinds ...int) *api.Segment {
	need(slices.Contains(kinds, model.Kind(*v)), api.ErrKind)
	return &v.Segments[0]
}

// newName checks the name of a new volume.
func (w *work) newName(name string) {
	need(names.Visible(name), api.ErrName)
	need(w.index(name) < 0, api.ErrTwice)
}

// newVolume checks the name and the length of a new volume.
func (w *work) newVolume() {
	w.newName(w.c.Volume)
	need(within(w.c.Extents, 1, api.MaxExtents), api.ErrRange)
}

func within(n, least, most int) bool {
	return n >= least && n <= most
}

// add appends a new volume.
func (w *work) add(name string, hidden bool, l ...api.Segment) {
	start := 0
	for i := range l {
		l[i].Start = start
		start += l[i].Length
	}
	w.g.Volumes = append(w.g.Volumes, api.Volume{Name: name, ID: names.Identity(w.g.ID, w.g.Next), Hidden: hidden, Segments: l})
	w.g.Next++
}

// take takes a volume away.
func (w *work) take(name string) {
	w.g.Volumes = slices.DeleteFunc(w.g.Volumes, func(v api.Volume) bool { return v.Name == name })
}

// leg returns the name of a leg.
func leg(name string, k int) string {
	s, e := names.Leg(name, k)
	check(e)
	return s
}

// The kinds of parts.
const (
	partLog  = 1
	partData = 2
	partMeta = 3
)

func part(name string, kind int) string {
	s, e := names.Part(name, kind)
	check(e)
	return s
}

// volumes returns areas on volumes.
func volumes(l ...string) []api.Area {
	var areas []api.Area
	for _, n := range l {
		areas = append(areas, api.Area{Volume: true, On: n})
	}
	return areas
}

// request returns the request of the command for parts of so many extents.
func (w *work) request(legs, stripes, extents int) api.Request {
	return api.Request{Legs: legs, Stripes: stripes, Extents: extents, Policy: w.c.Policy, Tag: w.c.Tag}
}

// scratch returns the present description in which some disks are closed, and what was allocated is used.
func (w *work) scratch(closed []string) api.Group {
	g := clone.Group(w.present)
	for i, d := range g.Disks {
		g.Disks[i].Closed = d.Closed || slices.Contains(closed, d.Name)
	}
	if len(w.taken) > 0 {
		g.Volumes = append(g.Volumes, w.holder())
	}
	return g
}

// holder returns a volume that has what was allocated, with a name and an identity that no other one has.
func (w *work) holder() api.Volume {
	v := api.Volume{Segments: clone.Segments(w.taken)}
	start := 0
	for i := range v.Segments {
		v.Segments[i].Start = start
		start += v.Segments[i].Length
	}
	for n := 0; ; n++ {
		v.Name, v.ID = "taken"+strconv.Itoa(n), names.Identity(w.g.ID, w.g.Next+n)
		if !slices.ContainsFunc(w.present.Volumes, func(x api.Volume) bool { return x.Name == v.Name || x.ID == v.ID }) {
			return v
		}
	}
}

// allocate returns the linear segments of each part of an allocation.
func (w *work) allocate(r api.Request, closed ...string) [][]api.Segment {
	g := w.scratch(closed)
	l, e := allocate.Allocate(g, r)
	check(e)
	var parts [][]api.Segment
	for _, areas := range l {
		var p []api.Segment
		for i, n := range Runs(g, r, areas) {
			p = append(p, api.Segment{Length: n, Kind: api.SegLinear, Areas: []api.Area{areas[i]}})
		}
		parts = append(parts, p)
		w.taken = append(w.taken, clone.Segments(p)...)
	}
	return parts
}

// one returns the linear segments of a single part.
func (w *work) one(extents int, closed ...string) []api.Segment {
	return w.allocate(w.request(1, 1, extents), closed...)[0]
}

// firsts returns the first areas of parts that have one each.
func firsts(parts [][]api.Segment) []api.Area {
	var l []api.Area
	for _, p := range parts {
		l = append(l, p[0].Areas[0])
	}
	return l
}

// extentsFor returns how many extents so many sectors need.
func (w *work) extentsFor(sectors int) int {
	return (sectors + w.g.Extent - 1) / w.g.Extent
}

// zero lets sectors of a volume be 0.
func (w *work) zero(volume string, from, extents int) {
	w.act(api.Act{Kind: api.ActZero, Volume: volume, From: from, Count: extents * w.g.Extent})
}

// rebase gives a volume another name, and those whose names begin with it that beginning.
func (w *work) rebase(from, to string) {
	long := false
	renamed(&w.g, func(name string) string {
		for x, ok := name, true; ok; x, ok = names.Parent(x) {
			if x == from {
				name = to + name[len(from):]
				break
			}
		}
		long = long || len(name) > api.MaxName
		return name
	})
	need(!long, api.ErrLimit)
}

// forget takes a volume away, and all hidden ones that are reached from it by areas and logs.
func (w *work) forget(name string) {
	v := *w.volume(name)
	w.take(name)
	for _, s := range v.Segments {
		for _, a := range s.Areas {
			if a.Volume && w.index(a.On) >= 0 && w.volume(a.On).Hidden {
				w.forget(a.On)
			}
		}
		if s.Log != "" && w.index(s.Log) >= 0 && w.volume(s.Log).Hidden {
			w.forget(s.Log)
		}
	}
}

// needs returns the disks that some volumes need.
func (w *work) needs(l ...string) []string {
	var disks []string
	for _, n := range l {
		disks = append(disks, model.Needs(w.present, n)...)
	}
	return disks
}
