package system

import (
	"testing"

	"volumegroup/api"
)

// P40.4: T1 and T4 while disks are added to the group and removed from it.
func TestDisksComeAndGo(t *testing.T) {
	for seed := range 30 {
		h := newHarness(t, seed, 5)
		for range 6 {
			h.must(api.Do{Kind: api.DoFuse, Number: 1 + h.r.Intn(900)})
			for range 40 {
				if h.s.Array().Down() {
					break
				}
				switch k := h.r.Intn(12); {
				case k < 2:
					c := h.anyCommand()
					if c.Kind <= api.CmdMirror {
						h.command(c)
					}
				case k == 2:
					g := h.group()
					d := g.Disks[h.r.Intn(len(g.Disks))]
					h.command(api.Command{Kind: api.CmdDiskRemove, Disk: api.Disk{Name: d.Name}})
				case k == 3:
					n := h.r.Intn(5)
					name := "d" + string(rune('a'+n))
					c := api.Command{Kind: api.CmdDiskAdd, Disk: api.Disk{Name: name, First: 2108, Extents: 150}, Number: n, Extents: 2100}
					x := h.do(api.Do{Kind: api.DoCommand, Command: c})
					switch x.Error {
					case api.OK:
						h.flushed(h.names()...)
					case api.ErrUse, api.ErrTwice, api.ErrPower:
					default:
						h.fatal("add", x.Error)
					}
					if h.s.Array().Down() {
						h.restart()
						h.settle()
					}
				case k == 4:
					h.checked(5, 7, 9)
				default:
					h.request()
				}
			}
			h.restart()
			h.settle()
			h.checked(5, 7, 9)
			for _, x := range h.must(api.Do{Kind: api.DoReport}).States {
				if x.State != api.StateActive {
					h.fatal("state", x)
				}
			}
		}
	}
}
