// Package clone copies descriptions of groups, so that a copy shares no memory.
package clone

import (
	"slices"

	"volumegroup/api"
)

// Group returns a copy of a group.
func Group(g api.Group) api.Group {
	g.Tags = slices.Clone(g.Tags)
	g.Disks = slices.Clone(g.Disks)
	for i, d := range g.Disks {
		g.Disks[i].Tags = slices.Clone(d.Tags)
	}
	g.Volumes = slices.Clone(g.Volumes)
	for i, v := range g.Volumes {
		g.Volumes[i].Tags = slices.Clone(v.Tags)
		g.Volumes[i].Segments = Segments(v.Segments)
	}
	g.History = slices.Clone(g.History)
	return g
}

// Segments returns a copy of segments.
func Segments(l []api.Segment) []api.Segment {
	c := slices.Clone(l)
	for i, s := range c {
		c[i].Areas = slices.Clone(s.Areas)
		c[i].Stale = slices.Clone(s.Stale)
	}
	return c
}
