package checker

import (
	"volumegroup/activate"
	"volumegroup/api"
	"volumegroup/model"
	"volumegroup/plan"
	"volumegroup/thinrepair"
)

// Mend replaces the metadata of a pool by a repaired one on a spare volume.
func Mend(s *activate.Stack, pool, spare string) (int, api.Errno) {
	for again := 0; ; again++ {
		n, e := mend(s, pool, spare)
		if e != api.ErrConflict || again > api.MaxLegs {
			return n, e
		}
	}
}

// metadata returns the metadata volume of a pool that can be mended with a spare volume.
func metadata(g api.Group, pool, spare string) (string, api.Errno) {
	p, ok := model.Volume(g, pool)
	x, is := model.Volume(g, spare)
	if !ok || !is {
		return "", api.ErrNone
	}
	if model.Kind(p) != api.SegPool {
		return "", api.ErrKind
	}
	meta := p.Segments[0].Areas[0].On
	m, _ := model.Volume(g, meta)
	switch {
	case !plan.Simple(m) || !plan.Plain(x):
		return "", api.ErrKind
	case len(model.Users(g, spare)) > 0:
		return "", api.ErrUse
	}
	return meta, api.OK
}

func mend(s *activate.Stack, pool, spare string) (int, api.Errno) {
	meta, e := metadata(s.Group(), pool, spare)
	if e != api.OK {
		return 0, e
	}
	if e := s.Sync(); e != api.OK {
		return 0, e
	}
	g := s.Group()
	if model.Sectors(g, spare) < model.Sectors(g, meta) {
		return 0, api.ErrSize
	}
	from, e := s.Raw(g, meta)
	if e != api.OK {
		return 0, e
	}
	to, e := s.Raw(g, spare)
	if e != api.OK {
		return 0, e
	}
	n, e := thinrepair.Repair(from, to)
	if e != api.OK {
		return 0, e
	}
	if e := s.Change(exchanged(g, meta, spare)); e != api.OK {
		return 0, e
	}
	return n, api.OK
}

// exchanged returns a description in which two volumes have each other's segments.
func exchanged(g api.Group, a, b string) api.Group {
	x, _ := model.Volume(g, a)
	y, _ := model.Volume(g, b)
	for i, v := range g.Volumes {
		switch v.Name {
		case a:
			g.Volumes[i].Segments = y.Segments
		case b:
			g.Volumes[i].Segments = x.Segments
		}
	}
	return g
}
