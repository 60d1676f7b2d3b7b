package names

import (
	"math"
	"strings"
	"testing"

	"volumegroup/api"
)

func x(n int) string { return strings.Repeat("x", n) }

// P8.1
func TestNames(t *testing.T) {
	for _, c := range []struct {
		s                     string
		name, visible, hidden bool
	}{
		{"", false, false, false}, {"a", true, true, false}, {"-a", false, false, false}, {".a", false, false, false}, {"+a_.-9", true, true, false}, {"_a", true, true, false},
		{"a b", false, false, false}, {"a/", false, false, false}, {"a:", false, false, false}, {"a=", false, false, false}, {"\xe4", false, false, false}, {"a\n", false, false, false},
		{x(24), true, true, false}, {x(25), true, false, false}, {x(40), true, false, false}, {x(41), false, false, false},
		{"x_log", true, false, true}, {"_log", true, false, false}, {"x_leg0", true, false, true}, {"x_leg7", true, false, true}, {"x_leg8", true, true, false}, {"x_leg", true, true, false}, {"leg0", true, true, false},
		{"x_data", true, false, true}, {"x_meta", true, false, true}, {"x_spare", true, false, true}, {"_log_log", true, false, false}, {"x_leg0_log_meta", true, false, true},
		{"x_logs", true, true, false}, {"-x_log", false, false, false}, {x(24) + "_log", true, false, true}, {x(25) + "_log", true, false, false},
		{x(20) + "_log_log_log_log_log", true, false, true}, {x(21) + "_log_log_log_log_log", false, false, false}, {x(20) + "_log_log", true, false, true}, {x(19) + "_log", true, false, true},
		{"x_log_", true, true, false}, {"x_leg0 ", false, false, false}, {"7", true, true, false},
	} {
		if Name(c.s) != c.name || Visible(c.s) != c.visible || Hidden(c.s) != c.hidden {
			t.Errorf("%q: %v, %v, %v", c.s, Name(c.s), Visible(c.s), Hidden(c.s))
		}
	}
	for b := range 256 {
		s := "a" + string([]byte{byte(b)})
		is := b >= 'a' && b <= 'z' || b >= 'A' && b <= 'Z' || b >= '0' && b <= '9' || strings.Contains("_.+-", s[1:])
		if Name(s) != is || Tag(s) != (is || b == '/' || b == '=' || b == ':') {
			t.Errorf("byte %d", b)
		}
	}
}

// P8.2
func TestTag(t *testing.T) {
	for s, want := range map[string]bool{"": false, "a": true, "site=1": true, "-a": false, ".a": true, "/": true, ":": true, "a b": false, x(24): true, x(25): false, "\x80": false} {
		if Tag(s) != want {
			t.Errorf("Tag(%q)", s)
		}
	}
}

// P8.3
func TestParts(t *testing.T) {
	for _, c := range []struct {
		s    string
		k    int
		want string
		e    api.Errno
	}{{"data", 0, "data_leg0", 0}, {"a_leg1", 7, "a_leg1_leg7", 0}, {"a", 8, "", api.ErrRange}, {"a", -1, "", api.ErrRange}, {"a", 256, "", api.ErrRange}, {"", 9, "", api.ErrName}, {x(25), 0, "", api.ErrName}, {x(20) + "_leg1_leg2_leg3_leg4", 0, "", api.ErrLimit}, {x(20) + "_leg1_leg2_leg3", 0, x(20) + "_leg1_leg2_leg3_leg0", api.OK}, {x(21) + "_leg1_leg2_leg3", 0, "", api.ErrLimit}, {x(21) + "_leg1_leg2_leg3", 8, "", api.ErrRange}} {
		if len(c.want) > 40 {
			c.want, c.e = "", api.ErrLimit
		}
		if s, e := Leg(c.s, c.k); s != c.want || e != c.e {
			t.Errorf("Leg(%q, %d) is %q, %d", c.s, c.k, s, e)
		}
	}
	for k, want := range []string{"", "v_log", "v_data", "v_meta", "v_spare", ""} {
		s, e := Part("v", k)
		if s != want || (e == api.OK) != (want != "") || e != api.OK && e != api.ErrRange {
			t.Errorf("Part(v, %d) is %q, %d", k, s, e)
		}
	}
	if s, e := Part("data_leg0", 1); s != "data_leg0_log" || e != api.OK {
		t.Error("Part of a leg")
	}
	long := x(20) + "_leg1_leg2_log_log"
	for _, c := range []struct {
		s    string
		kind int
		want api.Errno
	}{{"-", 9, api.ErrName}, {"v", math.MinInt, api.ErrRange}, {"v", math.MaxInt, api.ErrRange}, {long, 2, api.ErrLimit}, {long, 0, api.ErrRange}} {
		if s, e := Part(c.s, c.kind); s != "" || e != c.want {
			t.Errorf("Part(%q, %d) is %q, %d", c.s, c.kind, s, e)
		}
	}
}

// P8.4
func TestParentRoot(t *testing.T) {
	for _, c := range []struct{ s, parent, root string }{{"data_leg0", "data", "data"}, {"data_leg0_log", "data_leg0", "data"}, {"data", "", "data"}, {"_log", "", "_log"}, {"", "", ""}, {"-_log", "", "-_log"}, {x(25) + "_log", "", x(25) + "_log"}} {
		p, ok := Parent(c.s)
		if p != c.parent || ok != (c.parent != "") || Root(c.s) != c.root {
			t.Errorf("%q: %q, %q", c.s, p, Root(c.s))
		}
	}
}

// P8.5
func TestIdentities(t *testing.T) {
	if Identity(0, 0) != 0 || Identity(1, 0) != 2862933555777941757 || Identity(0, 2) != 6074000986 || Identity(3, 1) != 8588800667333825271+3037000493 {
		t.Error("Identity")
	}
	minus := -1
	if Identity(0, minus) != math.MaxUint64-3037000493+1 {
		t.Error("Identity of -1")
	}
	for s, id := range map[string]uint64{"0000000000000005": 5, "fedcba9876543210": 0xfedcba9876543210, "ffffffffffffffff": math.MaxUint64} {
		if Hex(id) != s {
			t.Errorf("Hex(%d) is %s", id, Hex(id))
		}
		if n, e := FromHex(s); n != id || e != api.OK {
			t.Errorf("FromHex(%s) is %d, %d", s, n, e)
		}
	}
	for _, s := range []string{"", "5", "000000000000000F", "00000000000000005", "000000000000000g", "+000000000000005", "0x00000000000005"} {
		if n, e := FromHex(s); n != 0 || e != api.ErrForm {
			t.Errorf("FromHex(%q) is %d, %d", s, n, e)
		}
	}
}

// P8.6
func TestInverse(t *testing.T) {
	for _, s := range []string{"a", "data", "a_leg0", "v_data_meta", x(24), "_", "x_leg8"} {
		for k := range 8 {
			l, e := Leg(s, k)
			if p, ok := Parent(l); e != api.OK || !ok || p != s || Root(l) != Root(s) || !Hidden(l) || Visible(l) {
				t.Errorf("Leg(%q, %d)", s, k)
			}
		}
		for k := 1; k <= 4; k++ {
			l, e := Part(s, k)
			if p, ok := Parent(l); e != api.OK || !ok || p != s || Root(l) != Root(s) || !Hidden(l) || Visible(l) {
				t.Errorf("Part(%q, %d)", s, k)
			}
		}
	}
	for id := uint64(1); id != 0; id <<= 1 {
		if n, e := FromHex(Hex(id)); n != id || e != api.OK {
			t.Errorf("FromHex(Hex(%d))", id)
		}
	}
}
