package execute

import (
	"slices"

	"volumegroup/activate"
	"volumegroup/api"
	"volumegroup/model"
	"volumegroup/plan"
)

// staleLegs returns the stale legs of an open mirror or volume with parity, as the object tells them.
func staleLegs(s *activate.Stack, v api.Volume) []int {
	var l []int
	if m, e := s.Mirror(v.Name); e == api.OK {
		l = m.Stale()
	} else if p, e := s.Parity(v.Name); e == api.OK {
		l = p.Stale()
	}
	return slices.DeleteFunc(l, func(k int) bool { return k >= len(v.Segments[0].Areas) })
}

// isOpen reports whether a volume is open. Whether its disk is there at the moment is not asked: Fill deals with a leg that
// cannot be written.
func isOpen(s *activate.Stack, name string) bool {
	_, e := s.Device(name)
	return e == api.OK
}

// Work returns what can be gone on with.
func Work(s *activate.Stack) []api.Work {
	var l []api.Work
	for _, v := range s.Group().Volumes {
		for i, seg := range v.Segments {
			if seg.Kind == api.SegMove {
				l = append(l, api.Work{Kind: api.WorkMove, Volume: v.Name, Number: i})
			}
		}
		if m, e := s.Mirror(v.Name); e == api.OK && len(m.Dirty()) > 0 {
			l = append(l, api.Work{Kind: api.WorkSync, Volume: v.Name})
		}
		for _, k := range staleLegs(s, v) {
			if isOpen(s, v.Segments[0].Areas[k].On) {
				l = append(l, api.Work{Kind: api.WorkFill, Volume: v.Name, Number: k})
			}
		}
	}
	return l
}

// Step goes on with a piece of work.
func Step(s *activate.Stack, w api.Work, n int) (bool, api.Errno) {
	if n < 1 {
		return false, api.ErrRange
	}
	if !slices.Contains(Work(s), w) {
		return false, api.ErrNone
	}
	var finished bool
	var e api.Errno
	switch w.Kind {
	case api.WorkMove:
		finished, e = move(s, w, n)
	case api.WorkSync:
		finished, e = resync(s, w, n)
	case api.WorkFill:
		finished, e = fill(s, w, n)
	}
	if e != api.OK {
		return false, settled(s, e)
	}
	return finished, api.OK
}

// record plans a command and records the description.
func record(s *activate.Stack, c api.Command) api.Errno {
	g, _, _, e := plan.Plan(s.Group(), c)
	if e != api.OK {
		return e
	}
	return s.Record(g)
}

// isMoved reports whether all extents of a segment are on the new place.
func isMoved(s *activate.Stack, w api.Work) bool {
	v, _ := model.Volume(s.Group(), w.Volume)
	seg := v.Segments[w.Number]
	return seg.Done == seg.Length
}

// move moves the next extents of a segment.
func move(s *activate.Stack, w api.Work, n int) (bool, api.Errno) {
	m, e := s.Mover(w.Volume, w.Number)
	if e != api.OK {
		return false, e
	}
	for ; n > 0 && !isMoved(s, w); n-- {
		if !m.Copied() {
			if e := m.Copy(); e != api.OK {
				return false, e
			}
		}
		if e := record(s, api.Command{Kind: api.CmdStep, Volume: w.Volume, Number: w.Number}); e != api.OK {
			return false, e
		}
		if e := m.Advance(); e != api.OK {
			return false, e
		}
	}
	if !isMoved(s, w) {
		return false, api.OK
	}
	e = again(func() api.Errno {
		g, _, _, e := plan.Plan(s.Group(), api.Command{Kind: api.CmdFinish, Volume: w.Volume, Number: w.Number})
		if e != api.OK {
			return e
		}
		return s.Change(g)
	}, api.ErrConflict)
	return e == api.OK, e
}

// resync makes the next sectors of a mirror equal.
func resync(s *activate.Stack, w api.Work, n int) (bool, api.Errno) {
	m, e := s.Mirror(w.Volume)
	if e != api.OK {
		return false, e
	}
	left, e := m.Resync(n)
	return e == api.OK && left == 0, e
}

// fill fills a leg, which is good when it is wholly filled.
func fill(s *activate.Stack, w api.Work, n int) (bool, api.Errno) {
	ready, accept, e := fillSome(s, w, n)
	if e != api.OK || !ready {
		return false, e
	}
	switch e := accept(); e {
	case api.OK:
	case api.ErrState:
		return false, api.OK
	default:
		return false, e
	}
	e = record(s, api.Command{Kind: api.CmdFresh, Volume: w.Volume, Number: w.Number})
	return e == api.OK, e
}

// fillSome fills the next sectors or rows of a leg; it reports whether the leg can be accepted, and how.
func fillSome(s *activate.Stack, w api.Work, n int) (ready bool, accept func() api.Errno, e api.Errno) {
	if p, e := s.Parity(w.Volume); e == api.OK {
		_, e := p.Fill(n)
		return p.Filled(), p.Accept, e
	}
	m, e := s.Mirror(w.Volume)
	if e != api.OK {
		return false, nil, e
	}
	filled, e := m.Fill(w.Number, n)
	return filled == m.Size() && len(m.Dirty()) == 0, func() api.Errno { return m.Accept(w.Number) }, e
}
