package activate

import (
	"strconv"

	"volumegroup/api"
	"volumegroup/block"
	"volumegroup/copies"
	"volumegroup/describe"
	"volumegroup/disk"
	"volumegroup/label"
	"volumegroup/names"
	"volumegroup/plan"
	"volumegroup/ring"
)

const labelSize = 8

// member is a disk of the array that belongs to the group: its number, its label, and its metadata area.
type member struct {
	number int
	label  api.Label
	area   block.Device
}

// whole returns the span of a whole disk.
func whole(a *disk.Array, d int) (block.Device, api.Errno) {
	return block.Span(a, d, 0, a.Size(d))
}

// members returns the members of a group.
func members(a *disk.Array, group uint64) []member {
	var l []member
	for d := range a.Count() {
		if a.Missing(d) {
			continue
		}
		x, e := whole(a, d)
		if e != api.OK {
			continue
		}
		m := member{number: d}
		if m.label, e = label.Read(x); e != api.OK || m.label.Group != group {
			continue
		}
		if m.area, e = block.Span(a, d, m.label.Start, m.label.Area); e == api.OK {
			l = append(l, m)
		}
	}
	return l
}

// isReadable reports whether the area of a member can be read.
func (m member) isReadable() bool {
	_, failed, _ := copies.Scan([]block.Device{m.area})
	return len(failed) == 0
}

// presentDisks returns the members of the disks of a description that are present, by their identities.
func presentDisks(a *disk.Array, g api.Group) map[uint64]member {
	first := map[uint64]member{}
	for _, m := range members(a, g.ID) {
		if _, twice := first[m.label.ID]; !twice {
			first[m.label.ID] = m
		}
	}
	present := map[uint64]member{}
	for _, d := range g.Disks {
		if m, ok := first[d.ID]; ok && m.isReadable() {
			present[d.ID] = m
		}
	}
	return present
}

// areasOf returns the areas of the present disks of a description, in its order, and the names of these disks.
func areasOf(g api.Group, present map[uint64]member) ([]block.Device, []string) {
	var l []block.Device
	var names []string
	for _, d := range g.Disks {
		if m, ok := present[d.ID]; ok {
			l, names = append(l, m.area), append(names, d.Name)
		}
	}
	return l, names
}

// Found returns the numbers of the members of a group.
func Found(a *disk.Array, group uint64) []int {
	var l []int
	for _, m := range members(a, group) {
		l = append(l, m.number)
	}
	return l
}

// Init makes a group of all disks of an array.
func Init(a *disk.Array, name string, id uint64, extent, area int) (api.Group, api.Errno) {
	switch {
	case !names.Visible(name):
		return api.Group{}, api.ErrName
	case extent < 1 || extent > api.MaxExtent:
		return api.Group{}, api.ErrRange
	}
	g := api.Group{Name: name, ID: id, Seq: 1, Extent: extent, Next: a.Count()}
	for d := range a.Count() {
		if area < 4 || area > api.MaxSectors || a.Size(d) < labelSize+area+extent {
			return api.Group{}, api.ErrSize
		}
		first := labelSize + area
		extents := min((a.Size(d)-first)/extent, api.MaxExtents)
		g.Disks = append(g.Disks, api.Disk{Name: "pv" + strconv.Itoa(d), ID: names.Identity(id, d), First: first, Extents: extents})
	}
	if area < 4 {
		return api.Group{}, api.ErrSize
	}
	if e := initDisks(a, g, area); e != api.OK {
		return api.Group{}, e
	}
	return g, api.OK
}

// initDisks writes the labels, formats the areas, and commits the first description.
func initDisks(a *disk.Array, g api.Group, area int) api.Errno {
	for d := range g.Disks {
		x, e := whole(a, d)
		if e != api.OK {
			return e
		}
		if e := label.Write(x, api.Label{ID: g.Disks[d].ID, Size: a.Size(d), Start: labelSize, Area: area, Group: g.ID}); e != api.OK {
			return e
		}
	}
	var areas []block.Device
	for d := range g.Disks {
		x, e := block.Span(a, d, labelSize, area)
		if e != api.OK {
			return e
		}
		if e := ring.Format(x); e != api.OK {
			return e
		}
		areas = append(areas, x)
	}
	text, e := describe.Text(g)
	if e != api.OK {
		return e
	}
	_, e = copies.Commit(areas, g.Seq, text)
	return e
}

// chosen returns the description that the members of a group have, and the number of the next one.
func chosen(a *disk.Array, group uint64) (api.Group, int, api.Errno) {
	var areas []block.Device
	for _, m := range members(a, group) {
		if m.isReadable() {
			areas = append(areas, m.area)
		}
	}
	if len(areas) == 0 {
		return api.Group{}, 0, api.ErrNone
	}
	found, _, greatest := copies.Scan(areas)
	k, e := copies.Choose(found)
	if e != api.OK {
		return api.Group{}, 0, e
	}
	next, e := copies.Next(greatest)
	if e != api.OK {
		return api.Group{}, 0, e
	}
	g, e := describe.Read(found[k].Text)
	if e != api.OK || g.ID != group {
		return api.Group{}, 0, api.ErrDamage
	}
	return g, next, api.OK
}

// settle commits a description on areas, some of which may have a damaged copy.
func settle(areas []block.Device, seq int, text string) api.Errno {
	for _, x := range areas {
		if _, e := ring.Read(x); e != api.ErrSum {
			continue
		}
		if e := ring.Clear(x); e != api.OK {
			return e
		}
	}
	_, e := copies.Commit(areas, seq, text)
	return e
}

// Start activates a group.
func Start(a *disk.Array, group uint64) (*Stack, api.Errno) {
	g, next, e := chosen(a, group)
	if e != api.OK {
		return nil, e
	}
	present := presentDisks(a, g)
	areas, names := areasOf(g, present)
	if len(areas) == 0 {
		return nil, api.ErrMissing
	}
	g = plan.Absent(g, names)
	g.Seq = next
	text, e := describe.Text(g)
	if e != api.OK {
		return nil, e
	}
	if e := settle(areas, next, text); e != api.OK {
		return nil, e
	}
	s := Build(a, g)
	if a.Down() {
		return nil, api.ErrPower
	}
	return s, api.OK
}
