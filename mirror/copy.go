package mirror

import (
	"volumegroup/api"
)

// regionSize returns the number of sectors of a region.
func (m *Mirror) regionSize(r int) int {
	return min(m.region, m.size-r*m.region)
}

// left returns how many sectors of dirty regions are still to be copied.
func (m *Mirror) left() int {
	n := -m.copied
	for _, r := range m.dirty {
		n += m.regionSize(r)
	}
	return n
}

// Resync makes the next sectors of dirty regions equal on all good legs.
func (m *Mirror) Resync(n int) (int, api.Errno) {
	if n < 0 {
		return 0, api.ErrRange
	}
	if e := m.checkFailed(); e != api.OK {
		return 0, e
	}
copying:
	for n > 0 && len(m.dirty) > 0 {
		r := m.dirty[0]
		for m.copied < m.regionSize(r) {
			if n == 0 {
				break copying
			}
			if e := m.copySector(r*m.region + m.copied); e != api.OK {
				return 0, e
			}
			m.copied, n = m.copied+1, n-1
		}
		if e := m.each(wasWritten, m.flushLeg); e != api.OK {
			return 0, e
		}
		m.dirty, m.copied = m.dirty[1:], 0
	}
	return m.left(), api.OK
}

func wasWritten(l *leg) bool {
	return isGood(l) && l.written
}

// copySector copies a sector to all other good legs.
func (m *Mirror) copySector(at int) api.Errno {
	w, from, _, e := m.fetch(at)
	if e != api.OK {
		return e
	}
	if e := m.each(func(l *leg) bool { return isGood(l) && l != from }, func(l *leg) api.Errno { return m.put(l, at, w) }); e == api.ErrPower {
		return e
	}
	return m.checkFailed()
}

// checkLeg returns the errors of Fill and Accept that concern the leg.
func (m *Mirror) checkLeg(k int, inRange bool) api.Errno {
	if !inRange || !m.has(k) && !m.isLog(k) {
		return api.ErrRange
	}
	if e := m.checkFailed(); e != api.OK {
		return e
	}
	if m.isLog(k) || m.legs[k].state != stale {
		return api.ErrState
	}
	return api.OK
}

// Fill copies the next sectors to a stale leg.
func (m *Mirror) Fill(k, n int) (int, api.Errno) {
	if e := m.checkLeg(k, n >= 0); e != api.OK {
		return 0, e
	}
	l := m.legs[k]
	for range min(n, m.size-l.filled) {
		w, e := m.read(l.filled)
		if e != api.OK {
			return 0, e
		}
		switch l.Write(l.filled, w) {
		case api.OK:
			l.filled++
		case api.ErrPower:
			return 0, api.ErrPower
		default:
			l.filled = 0
			return 0, api.OK
		}
	}
	return l.filled, api.OK
}

// Accept makes a stale leg good that is wholly filled.
func (m *Mirror) Accept(k int) api.Errno {
	if e := m.checkLeg(k, true); e != api.OK {
		return e
	}
	l := m.legs[k]
	if l.filled < m.size || len(m.dirty) > 0 {
		return api.ErrState
	}
	if e := m.each(isGood, m.flushLeg); e != api.OK {
		return e
	}
	switch l.Flush() {
	case api.OK:
		l.state, l.filled, l.written = good, 0, false
		return api.OK
	case api.ErrPower:
		return api.ErrPower
	}
	l.filled = 0
	return api.ErrState
}
