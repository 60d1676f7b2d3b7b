package describe

import (
	"strings"
	"testing"

	"volumegroup/api"
	"volumegroup/config"
	"volumegroup/model"
)

const example = `vg {
  id = "0000000000000005"
  seq = 1
  extent = 4
  next = 2
  disks {
    pv0 {
      id = "0000000000000001"
      first = 64
      extents = 10
    }
  }
}
`

const full = `vg {
  id = "00000000000000ff"
  seq = 7
  extent = 4
  next = 30
  tags = ["a", "b=1"]
  disks {
    pv0 {
      id = "0000000000000001"
      first = 100
      extents = 50
      closed = 1
      missing = 1
      tags = ["t"]
    }
    pv1 {
      id = "0000000000000002"
      first = 0
      extents = 0
    }
  }
  volumes {
    lin {
      id = "000000000000000a"
      readonly = 1
      tags = ["x"]
      segment0 {
        length = 2
        kind = "linear"
        areas = ["pv0:3"]
      }
      segment1 {
        length = 2
        kind = "move"
        areas = ["pv0:10", "pv0:20"]
        done = 1
      }
      segment2 {
        length = 1
        kind = "zero"
      }
      segment3 {
        length = 1
        kind = "error"
      }
      segment4 {
        length = 2
        kind = "striped"
        areas = ["pv0:30", "pv0:31"]
        chunk = 2
      }
    }
    m {
      id = "000000000000000b"
      segment0 {
        length = 1
        kind = "mirror"
        areas = ["m_leg0", "m_leg1"]
        chunk = 4
        stale = ["1", "2"]
        log = "m_log"
      }
    }
    m_leg0 {
      id = "000000000000000c"
      hidden = 1
      segment0 {
        length = 1
        kind = "linear"
        areas = ["pv0:40"]
      }
    }
    m_leg1 {
      id = "000000000000000d"
      hidden = 1
      segment0 {
        length = 1
        kind = "zero"
      }
    }
    m_log {
      id = "000000000000000e"
      hidden = 1
      segment0 {
        length = 1
        kind = "zero"
      }
    }
    p {
      id = "000000000000000f"
      segment0 {
        length = 1
        kind = "pool"
        areas = ["p_meta", "p_data"]
        chunk = 4
      }
    }
    p_meta {
      id = "0000000000000010"
      hidden = 1
      segment0 {
        length = 1
        kind = "zero"
      }
    }
    p_data {
      id = "0000000000000011"
      hidden = 1
      segment0 {
        length = 1
        kind = "zero"
      }
    }
    t {
      id = "0000000000000012"
      segment0 {
        length = 9
        kind = "thin"
        pool = "p"
        device = 3
      }
    }
    c {
      id = "0000000000000013"
      segment0 {
        length = 1
        kind = "cache"
        areas = ["c_leg0", "c_data", "c_meta"]
        chunk = 1
        mode = 2
      }
    }
    c_leg0 {
      id = "0000000000000014"
      hidden = 1
      segment0 {
        length = 1
        kind = "zero"
      }
    }
    c_data {
      id = "0000000000000015"
      hidden = 1
      segment0 {
        length = 1
        kind = "zero"
      }
    }
    c_meta {
      id = "0000000000000016"
      hidden = 1
      segment0 {
        length = 1
        kind = "zero"
      }
    }
  }
  history {
    entry0 {
      name = "old"
      id = "0000000000000063"
      seq = 0
    }
    entry1 {
      name = "older"
      id = "0000000000000064"
      seq = 3
    }
  }
}
`

func read(t *testing.T, s string) api.Group {
	t.Helper()
	g, e := Read(s)
	if e != api.OK {
		t.Fatalf("Read: %d", e)
	}
	return g
}

// P10.1
func TestTree(t *testing.T) {
	for k, want := range []string{"", "linear", "striped", "mirror", "parity", "pool", "thin", "cache", "move", "zero", "error", ""} {
		if KindName(k) != want {
			t.Errorf("KindName(%d) is %q", k, KindName(k))
		}
	}
	if KindName(-1) != "" {
		t.Error("KindName(-1)")
	}
	g := read(t, full)
	l, e := Tree(g)
	if e != api.OK {
		t.Fatal(e)
	}
	want, _, _ := config.Parse(full)
	if !config.Same(l, want) {
		t.Error("Tree")
	}
	g.Extent = 0
	if l, e := Tree(g); l != nil || e != api.ErrRange {
		t.Error("Tree of a group that is not valid")
	}
	g = read(t, full)
	g.Volumes[0].Segments[0].Length = 0
	if l, e := Tree(g); l != nil || e != api.ErrForm {
		t.Error("Tree of a group with a wrong segment")
	}
}

// P10.2
func TestGroup(t *testing.T) {
	g := read(t, full)
	if g.Name != "vg" || g.ID != 255 || g.Seq != 7 || g.Next != 30 || len(g.Disks) != 2 || !g.Disks[0].Closed || !g.Disks[0].Missing || g.Disks[0].Tags[0] != "t" || g.Disks[1].Closed {
		t.Errorf("the group is %v", g)
	}
	v := g.Volumes[0]
	if !v.ReadOnly || v.Hidden || v.Segments[4].Start != 6 || v.Segments[1].Areas[1] != (api.Area{On: "pv0", Start: 20}) || v.Segments[1].Done != 1 {
		t.Errorf("the volume is %v", v)
	}
	if s := g.Volumes[1].Segments[0]; s.Areas[1] != (api.Area{Volume: true, On: "m_leg1"}) || s.Stale[1] != 2 || s.Log != "m_log" {
		t.Errorf("the mirror is %v", s)
	}
	if g.History[1] != (api.Removed{Name: "older", ID: 100, Seq: 3}) {
		t.Error("the history")
	}
	for i, c := range []struct {
		old, now string
		want     api.Errno
	}{
		{"seq = 7", "", api.ErrForm}, {"seq = 7", "seq = \"7\"", api.ErrForm}, {"seq = 7\n  extent = 4", "extent = 4 seq = 7", api.ErrForm}, {"seq = 7", "seq = 7 x = 1", api.ErrForm},
		{"closed = 1", "closed = 0", api.ErrForm}, {"closed = 1", "closed = 2", api.ErrForm}, {"hidden = 1", "hidden = 3", api.ErrForm}, {"done = 1", "done = 0", api.ErrForm}, {"[\"t\"]", "[]", api.ErrForm},
		{"closed = 1\n      missing = 1", "missing = 1 closed = 1", api.ErrForm}, {"log = \"m_log\"", "log = \"\"", api.ErrForm}, {"00000000000000ff", "00000000000000FF", api.ErrForm}, {"00000000000000ff", "ff", api.ErrForm},
		{"segment1", "segment9", api.ErrForm}, {"segment1", "segment01", api.ErrForm}, {"entry1", "entry3", api.ErrForm}, {"kind = \"zero\"", "kind = \"zeros\"", api.ErrForm}, {"kind = \"zero\"", "", api.ErrForm},
		{"pv0:3\"", "pv0:03\"", api.ErrForm}, {"pv0:3\"", "pv0:+3\"", api.ErrForm}, {"pv0:3\"", "pv0:\"", api.ErrForm}, {"pv0:3\"", "pv0:-0\"", api.ErrForm}, {"pv0:3\"", "pv0:9007199254740993\"", api.ErrForm}, {"pv0:3\"", "pv0:99999999999999999999\"", api.ErrForm}, {"pv0:3\"", "pv0:x\"", api.ErrForm},
		{"\"1\", \"2\"", "\"1\", \"02\"", api.ErrForm}, {"\"1\", \"2\"", "\"1\", 2", api.ErrSyntax}, {"\"1\", \"2\"", "\"1\", \"x\"", api.ErrForm}, {"vg {", "a = 1 vg {", api.ErrForm}, {"vg {", "a {} vg {", api.ErrForm},
		{"extents = 0", "extents = 0 closed = 0", api.ErrForm}, {"history {", "history2 {", api.ErrForm},
		{"seq = 7", "seq = -1", api.ErrRange}, {"vg {", "vg_log {", api.ErrName}, {"kind = \"zero\"", "kind = \"\"", api.ErrForm}, {"pv0:3\"", "pv9:3\"", api.ErrNone}, {"pv0:3\"", "pv0:-3\"", api.ErrRange}, {"pv0:3\"", "pv0:9007199254740992\"", api.ErrRange}, {"pv0:3\"", "pv0:2:3\"", api.ErrNone}, {"pv0:3\"", "pv0\"", api.ErrForm},
		{"\"1\", \"2\"", "\"2\", \"1\"", api.ErrForm}, {"00000000000000ff", "0000000000000000", api.OK}, {"seq = 7", "seq = 0", api.OK}, {"length = 9", "length = 0", api.ErrForm},
	} {
		s := strings.Replace(full, c.old, c.now, 1)
		if s == full {
			t.Errorf("case %d changes nothing", i)
		}
		if g, e := Read(s); e != c.want || e != api.OK && !model.Same(g, api.Group{}) {
			t.Errorf("%s for %s: %d, not %d", c.now, c.old, e, c.want)
		}
	}
	// The empty text is a kind that model.Check refuses, ahead of which the name is refused.
	if _, e := Read(strings.Replace(strings.Replace(full, "kind = \"zero\"", "kind = \"\"", 1), "vg {", "vg_log {", 1)); e != api.ErrName {
		t.Error("the empty kind is not read")
	}
	if _, e := Read(strings.Replace(strings.Replace(full, "kind = \"zero\"", "kind = \"x\"", 1), "vg {", "vg_log {", 1)); e != api.ErrForm {
		t.Error("an unknown kind is read")
	}
	if _, e := Read(strings.Replace(full, "volumes {", "volumes { } old {", 1)); e != api.ErrForm {
		t.Error("an empty section")
	}
	for _, l := range [][]api.Node{nil, {{Name: "vg", Kind: api.KindNumber}}, {{Name: "vg", Kind: api.KindSection}}} {
		if _, e := Group(l); e != api.ErrForm {
			t.Errorf("Group of %v", l)
		}
	}
	l, _, _ := config.Parse(example)
	l[0].Nodes[1].Text = "x"
	if _, e := Group(l); e != api.ErrForm {
		t.Error("a number with a text")
	}
}

// P10.3
func TestTextRead(t *testing.T) {
	g := api.Group{Name: "vg", ID: 5, Seq: 1, Extent: 4, Next: 2, Disks: []api.Disk{{Name: "pv0", ID: 1, First: 64, Extents: 10}}}
	if s, e := Text(g); s != example || e != api.OK {
		t.Errorf("Text is %s, %d", s, e)
	}
	if !model.Same(read(t, example), g) {
		t.Error("Read of the example")
	}
	if s, e := Text(read(t, full)); s != full || e != api.OK {
		t.Error("Text of a full group")
	}
	if _, e := Text(api.Group{}); e != api.ErrName {
		t.Error("Text of nothing")
	}
	for s, want := range map[string]api.Errno{"": api.ErrForm, "vg {": api.ErrSyntax, "a = 1 a = 2": api.ErrTwice, strings.Repeat(" ", 8193): api.ErrLimit} {
		if _, e := Read(s); e != want {
			t.Errorf("Read(%.10q) is %d", s, e)
		}
	}
	for i := range 32 {
		name := "volume" + string(rune('a'+i))
		if i >= 26 {
			name = "w" + string(rune('a'+i-26))
		}
		v := api.Volume{Name: name, ID: uint64(100 + i)}
		for k := range 5 {
			v.Segments = append(v.Segments, api.Segment{Start: k, Length: 1, Kind: api.SegZero})
		}
		g.Volumes = append(g.Volumes, v)
	}
	if _, e := model.Check(g); e != api.OK {
		t.Fatal(e)
	}
	if s, e := Text(g); s != "" || e != api.ErrLimit {
		t.Errorf("a text that is too long: %d", e)
	}
}

// P10.4
func TestInverse(t *testing.T) {
	for _, s := range []string{example, full} {
		g := read(t, s)
		l, _ := Tree(g)
		again, e := Group(l)
		if e != api.OK || !model.Same(g, again) {
			t.Error("Group does not undo Tree")
		}
		again.Tags = append(again.Tags, "zzz")
		if m, _ := Tree(g); !config.Same(l, m) {
			t.Error("a tree shares memory")
		}
	}
}
