package script

import (
	"math"
	"math/rand"
	"slices"
	"strings"
	"testing"

	"volumegroup/api"
)

func same(a, b api.Do) bool {
	return a.Kind == b.Kind && a.Name == b.Name && a.Other == b.Other && a.At == b.At && a.Number == b.Number && a.Value == b.Value && a.Flag == b.Flag && slices.Equal(a.Keep, b.Keep) &&
		a.Command.Kind == b.Command.Kind && a.Command.Volume == b.Command.Volume && a.Command.Other == b.Command.Other && a.Command.Extents == b.Command.Extents && a.Command.Parts == b.Command.Parts && a.Command.Chunk == b.Command.Chunk &&
		a.Command.Policy == b.Command.Policy && a.Command.Tag == b.Command.Tag && a.Command.Mode == b.Command.Mode && a.Command.Number == b.Command.Number && a.Command.Disk.Name == b.Command.Disk.Name
}

// lines has a step of each kind as a line.
func lines() []struct {
	line string
	do   api.Do
} {
	return []struct {
		line string
		do   api.Do
	}{
		{"init vg 18446744073709551615 4 200", api.Do{Kind: api.DoInit, Name: "vg", Value: math.MaxUint64, At: 4, Number: 200}},
		{"command 3 m - 10 2 4 1 - -5 1 pv0", api.Do{Kind: api.DoCommand, Command: api.Command{Kind: 3, Volume: "m", Extents: 10, Parts: 2, Chunk: 4, Policy: 1, Mode: -5, Number: 1, Disk: api.Disk{Name: "pv0"}}}},
		{"read data 5", api.Do{Kind: api.DoRead, Name: "data", At: 5}}, {"write - -1 0", api.Do{Kind: api.DoWrite, At: -1}}, {"flush -", api.Do{Kind: api.DoFlush}}, {"flush -x", api.Do{Kind: api.DoFlush, Name: "-x"}}, {"work 0 3", api.Do{Kind: api.DoWork, Number: 3}},
		{"start", api.Do{Kind: api.DoStart}}, {"stop", api.Do{Kind: api.DoStop}}, {"check", api.Do{Kind: api.DoCheck}}, {"keep", api.Do{Kind: api.DoKeep}}, {"report", api.Do{Kind: api.DoReport}},
		{"fuse 999999999999999999", api.Do{Kind: api.DoFuse, Number: 999999999999999999}}, {"restart 0110", api.Do{Kind: api.DoRestart, Keep: []bool{false, true, true, false}}}, {"restart -", api.Do{Kind: api.DoRestart}}, {"missing 1 1", api.Do{Kind: api.DoMissing, At: 1, Flag: true}}, {"bad 2 7 0", api.Do{Kind: api.DoBad, Number: 2, At: 7}},
		{"clean c 2", api.Do{Kind: api.DoClean, Name: "c", Number: 2}}, {"discard t 4", api.Do{Kind: api.DoDiscard, Name: "t", At: 4}}, {"restore 12", api.Do{Kind: api.DoRestore, Number: 12}}, {"mend p s", api.Do{Kind: api.DoMend, Name: "p", Other: "s"}},
	}
}

// P41.1
func TestFormatParse(t *testing.T) {
	var all []api.Do
	text := ""
	for _, x := range lines() {
		if s, e := Format([]api.Do{x.do}); s != x.line+"\n" || e != api.OK {
			t.Errorf("Format: %q, %d, not %q", s, e, x.line)
		}
		all, text = append(all, x.do), text+x.line+"\n"
	}
	if l, at, e := Parse(text); e != api.OK || at != 0 || !slices.EqualFunc(l, all, same) {
		t.Errorf("Parse: %v, %d, %d", l, at, e)
	}
	if l, at, e := Parse(""); len(l) != 0 || at != 0 || e != api.OK {
		t.Error("the empty text")
	}
	if s, e := Format(nil); s != "" || e != api.OK {
		t.Error("no steps")
	}
	for i, c := range []struct {
		l    []api.Do
		want api.Errno
	}{
		{make([]api.Do, api.MaxSteps+1), api.ErrLimit}, {[]api.Do{{Kind: 0}}, api.ErrKind}, {[]api.Do{{Kind: 20}}, api.ErrKind}, {[]api.Do{{Kind: api.DoStart}, {Kind: api.DoFuse, Number: 1e18}}, api.ErrRange}, {[]api.Do{{Kind: api.DoRead, Name: "-", At: math.MinInt}}, api.ErrRange}, {[]api.Do{{Kind: api.DoRead, Name: "-"}, {Kind: 0}}, api.ErrName}, {[]api.Do{{Kind: api.DoRead, Name: "a b"}}, api.ErrName}, {[]api.Do{{Kind: api.DoMend, Other: "a\n"}}, api.ErrName}, {[]api.Do{{Kind: api.DoCommand, Command: api.Command{Tag: "-"}}}, api.ErrName}, {[]api.Do{{Kind: api.DoStart, Name: "-", Number: math.MaxInt}}, api.OK},
	} {
		if s, e := Format(c.l); e != c.want || e != api.OK && s != "" {
			t.Errorf("Format %d: %d", i, e)
		}
	}
	for _, c := range []struct {
		s    string
		line int
		want api.Errno
	}{
		{"start", 1, api.ErrSyntax}, {"start\nstop", 2, api.ErrSyntax}, {"\n", 1, api.ErrSyntax}, {"start\n\nstop\n", 2, api.ErrSyntax}, {"start \n", 1, api.ErrSyntax}, {" start\n", 1, api.ErrSyntax}, {"Start\n", 1, api.ErrSyntax}, {"start 1\n", 1, api.ErrSyntax}, {"read x\n", 1, api.ErrSyntax}, {"read x  5\n", 1, api.ErrSyntax}, {"read x 5 6\n", 1, api.ErrSyntax}, {"read x 05\n", 1, api.ErrSyntax}, {"read x -0\n", 1, api.ErrSyntax}, {"read x +5\n", 1, api.ErrSyntax}, {"read x 5x\n", 1, api.ErrSyntax}, {"read x -\n", 1, api.ErrSyntax}, {"read  5\n", 1, api.ErrSyntax},
		{"fuse 1000000000000000000\n", 1, api.ErrSyntax}, {"fuse -1000000000000000000\n", 1, api.ErrSyntax}, {"write x 1 -1\n", 1, api.ErrSyntax}, {"write x 1 18446744073709551616\n", 1, api.ErrSyntax}, {"write x 1 00\n", 1, api.ErrSyntax}, {"missing 1 2\n", 1, api.ErrSyntax}, {"missing 1 01\n", 1, api.ErrSyntax}, {"restart 012\n", 1, api.ErrSyntax}, {"restart \n", 1, api.ErrSyntax}, {"start\r\n", 1, api.ErrSyntax},
		{strings.Repeat("start\n", api.MaxSteps) + "x\n", api.MaxSteps + 1, api.ErrLimit}, {"x\n" + strings.Repeat("start\n", api.MaxSteps), 1, api.ErrSyntax},
	} {
		if l, at, e := Parse(c.s); l != nil || at != c.line || e != c.want {
			t.Errorf("Parse(%.30q): %d, %d", c.s, at, e)
		}
	}
	if l, _, e := Parse(strings.Repeat("start\n", api.MaxSteps)); e != api.OK || len(l) != api.MaxSteps {
		t.Error("as many steps as are permitted")
	}
}

// P41.2
func TestAnswer(t *testing.T) {
	full := api.Done{Value: math.MaxUint64, Count: 3, States: []api.State{{Name: "a", State: 1}, {Name: "b_leg0", State: 3, Error: 6}}, Violations: []api.Violation{{Kind: 5, Where: "old", At: 1, More: 7}, {Kind: 9}}}
	for kind, want := range map[int]string{api.DoRead: "ok 18446744073709551615", api.DoWrite: "ok", api.DoWork: "ok 3", api.DoClean: "ok 3", api.DoMend: "ok 3", api.DoReport: "ok 3 a:1 b_leg0:3", api.DoCheck: "ok 3 5:old:1:7 9:-:0:0", api.DoStart: "ok", 0: "ok"} {
		if s := Answer(api.Do{Kind: kind}, full); s != want {
			t.Errorf("kind %d: %q", kind, s)
		}
	}
	full.Error = api.ErrSpace
	if s := Answer(api.Do{Kind: api.DoRead}, full); s != "error 14" {
		t.Errorf("an error: %q", s)
	}
}

// P41.3
func TestRun(t *testing.T) {
	s, line, e := Run("disks 400 400\ninit vg 7 4 200\nstart\ncommand 1 x - 2 0 0 4 - 0 0 -\nwrite x 3 55\nread x 3\nread x 9\nreport\nmissing 1 1\ncheck\n")
	want := "ok\nok\nok\nok\nok 55\nerror 1\nok 0 x:1\nok\nok 0\n"
	if s != want || line != 0 || e != api.OK {
		t.Errorf("Run: %q, %d, %d", s, line, e)
	}
	if s, line, e := Run("disks\n"); s != "" || line != 0 || e != api.OK {
		t.Error("no disks")
	}
	for _, c := range []struct {
		s    string
		line int
		want api.Errno
	}{{"", 1, api.ErrSyntax}, {"disks 5", 1, api.ErrSyntax}, {"disk 5\n", 1, api.ErrSyntax}, {"disks 5 \n", 1, api.ErrSyntax}, {"disks x\nz\n", 1, api.ErrSyntax}, {"disks 05\n", 1, api.ErrSyntax}, {"disks 5\nx\n", 2, api.ErrSyntax}, {"disks 0\nstart\nx\n", 3, api.ErrSyntax}, {"disks 0\n", 1, api.ErrRange}, {"disks 1 1 1 1 1 1 1 1 1\n", 1, api.ErrLimit}, {"disks 5\n" + strings.Repeat("start\n", 4097), 4098, api.ErrLimit}} {
		if s, line, e := Run(c.s); s != "" || line != c.line || e != c.want {
			t.Errorf("Run(%.20q): %d, %d", c.s, line, e)
		}
	}
}

// P41.4
func TestInverse(t *testing.T) {
	r := rand.New(rand.NewSource(1))
	for range 300 {
		var l []api.Do
		for range r.Intn(6) {
			d := lines()[r.Intn(len(lines()))].do
			d.At, d.Number, d.Value = r.Intn(100)-50, r.Intn(100)-50, r.Uint64()
			d.Name = []string{"", "x", "-a", "\t"}[r.Intn(4)]
			l = append(l, d)
		}
		s, e := Format(l)
		if e != api.OK {
			t.Fatal(e)
		}
		m, _, e := Parse(s)
		if e != api.OK || len(m) != len(l) {
			t.Fatalf("Parse of %q: %d", s, e)
		}
		if again, e := Format(m); again != s || e != api.OK {
			t.Fatalf("Format of Parse of %q: %q", s, again)
		}
		b := []byte(s)
		for range 2 {
			if len(b) > 0 {
				b[r.Intn(len(b))] = "01- \nax"[r.Intn(7)]
			}
		}
		if m, _, e := Parse(string(b)); e == api.OK {
			if again, e := Format(m); again != string(b) || e != api.OK {
				t.Fatalf("Format of Parse of %q: %q", b, again)
			}
		}
	}
}
