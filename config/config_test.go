package config

import (
	"math/rand"
	"strconv"
	"strings"
	"testing"

	"volumegroup/api"
)

type nodes = []api.Node

func number(name string, n int) api.Node {
	return api.Node{Name: name, Kind: api.KindNumber, Number: n}
}

func text(name, s string) api.Node {
	return api.Node{Name: name, Kind: api.KindText, Text: s}
}

func list(name string, l ...string) api.Node {
	return api.Node{Name: name, Kind: api.KindList, List: l}
}

func section(name string, l ...api.Node) api.Node {
	return api.Node{Name: name, Kind: api.KindSection, Nodes: l}
}

// numbers is n nodes with different names.
func numbers(n int) nodes {
	var l nodes
	for i := range n {
		l = append(l, number("n"+strconv.Itoa(i), 1))
	}
	return l
}

func many(n int) string {
	var b strings.Builder
	for i := range n {
		b.WriteString("n" + strconv.Itoa(i) + "=1 ")
	}
	return b.String()
}

// P7.1
func TestParse(t *testing.T) {
	for _, c := range []struct {
		s    string
		want nodes
	}{
		{"", nil},
		{`a = 1 b { c = ["x"] }`, nodes{number("a", 1), section("b", list("c", "x"))}},
		{`a{}b{a{}}c="x"d=[]e=["","y"]f=-3`, nodes{section("a"), section("b", section("a")), text("c", "x"), list("d"), list("e", "", "y"), number("f", -3)}},
		{strings.Repeat("a{", 8) + strings.Repeat("}", 8), nodes{section("a", section("a", section("a", section("a", section("a", section("a", section("a", section("a"))))))))}},
		{many(1024), numbers(1024)},
		{strings.Repeat("x", 40) + "=0", nodes{number(strings.Repeat("x", 40), 0)}},
	} {
		if l, p, e := Parse(c.s); e != api.OK || p != (api.Pos{}) || !Same(l, c.want) {
			t.Errorf("Parse of %.50q: %v, %v, %d", c.s, l, p, e)
		}
	}
	long := strings.Repeat("x", 41)
	for _, c := range []struct {
		s    string
		col  int
		want api.Errno
	}{
		{"a = 1 !", 7, api.ErrSyntax}, {"a = = !", 7, api.ErrSyntax}, {"a = 9007199254740993", 5, api.ErrRange},
		{"a = 1 a = 2", 7, api.ErrTwice}, {"a = [1]", 6, api.ErrSyntax}, {"a = 1 a", 7, api.ErrTwice},
		{"a = [", 6, api.ErrSyntax}, {`a = ["x",]`, 10, api.ErrSyntax}, {`a = ["x" "y"]`, 10, api.ErrSyntax}, {"a = [,]", 6, api.ErrSyntax}, {`a = ["x"`, 9, api.ErrSyntax},
		{"a = b", 5, api.ErrSyntax}, {"a", 2, api.ErrSyntax}, {"a =", 4, api.ErrSyntax}, {"5 = 5", 1, api.ErrSyntax}, {"}", 1, api.ErrSyntax}, {"a { b = 1", 10, api.ErrSyntax},
		{`"a" = 1`, 1, api.ErrSyntax}, {"a 5", 3, api.ErrSyntax}, {"a { ]", 5, api.ErrSyntax}, {"a { a = 1 } }", 13, api.ErrSyntax}, {"a {} a {}", 6, api.ErrTwice},
		{long + " = 1", 1, api.ErrLimit}, {"a { b = 1 b { } }", 11, api.ErrTwice},
		{strings.Repeat("a{", 9), 18, api.ErrLimit},
		{many(1024) + "m", len(many(1024)) + 1, api.ErrLimit}, {many(1024) + "n5", len(many(1024)) + 1, api.ErrTwice}, {many(1024) + long, len(many(1024)) + 1, api.ErrLimit},
		{"s {" + many(1023) + "} m = 1", len(many(1023)) + 6, api.ErrLimit},
		{strings.Repeat(" ", api.MaxText+1), 1, api.ErrLimit},
	} {
		if l, p, e := Parse(c.s); e != c.want || l != nil || p.Line != 1 || p.Col != c.col {
			t.Errorf("Parse of %.50q: %v, %v, %d", c.s, l, p, e)
		}
	}
	if _, p, e := Parse("a = 1\n b = [\n\t}"); e != api.ErrSyntax || p != (api.Pos{Line: 3, Col: 2}) {
		t.Error("lines")
	}
}

// P7.2
func TestFormat(t *testing.T) {
	s, e := Format(nodes{number("a", -1), section("b", list("c", "x", "\n"), text("d", `"`), section("e"), list("f"))})
	want := "a = -1\nb {\n  c = [\"x\", \"\\n\"]\n  d = \"\\\"\"\n  e {\n  }\n  f = []\n}\n"
	if s != want || e != api.OK {
		t.Errorf("Format: %q, %d", s, e)
	}
	if s, e := Format(nil); s != "" || e != api.OK {
		t.Error("Format of nothing")
	}
	deep := section("a")
	for range 7 {
		deep = section("a", deep)
	}
	if _, e := Format(nodes{deep}); e != api.OK {
		t.Error("sections of depth 8")
	}
	for i, n := range (nodes{
		section("a", deep), number("", 1), number("5", 1), number("a b", 1), number("a#", 1), number(" a", 1), number("a\n", 1), number(strings.Repeat("x", 41), 1),
		number("a", 1<<53+1), number("a", -1<<53-1), text("a", "\t"), list("a", "x", "\x7f"), {Name: "a"}, {Name: "a", Kind: 5}, {Name: "a", Kind: -1},
		{Name: "a", Kind: api.KindNumber, Text: "x"}, {Name: "a", Kind: api.KindNumber, List: []string{""}}, {Name: "a", Kind: api.KindNumber, Nodes: nodes{number("b", 1)}},
		{Name: "a", Kind: api.KindText, Number: 1}, {Name: "a", Kind: api.KindText, List: []string{""}}, {Name: "a", Kind: api.KindText, Nodes: nodes{number("b", 1)}},
		{Name: "a", Kind: api.KindList, Number: 1}, {Name: "a", Kind: api.KindList, Text: "x"}, {Name: "a", Kind: api.KindList, Nodes: nodes{number("b", 1)}},
		{Name: "a", Kind: api.KindSection, Number: 1}, {Name: "a", Kind: api.KindSection, Text: "x"}, {Name: "a", Kind: api.KindSection, List: []string{""}},
		section("a", number("b", 1), number("b", 2)), section("a", section("b", number("1", 1))),
	}) {
		if s, e := Format(nodes{n}); s != "" || e != api.ErrForm {
			t.Errorf("node %d: %q, %d", i, s, e)
		}
	}
	if _, e := Format(append(numbers(2), number("n1", 1))); e != api.ErrForm {
		t.Error("a name twice")
	}
	if _, e := Format(nodes{{Name: "a", Kind: api.KindNumber, List: []string{}, Nodes: nodes{}}}); e != api.OK {
		t.Error("empty lists")
	}
	if _, e := Format(numbers(1025)); e != api.ErrLimit {
		t.Error("1025 nodes")
	}
	if _, e := Format(append(numbers(1025), number("", 0))); e != api.ErrForm {
		t.Error("ErrForm comes ahead of ErrLimit")
	}
	for n, want := range map[int]api.Errno{8192 - 7: api.OK, 8192 - 6: api.ErrLimit} {
		if s, e := Format(nodes{text("a", strings.Repeat("x", n))}); e != want || e == api.OK && len(s) != 8192 {
			t.Errorf("a text of %d bytes: %d", n+7, e)
		}
	}
}

// P7.3
func TestFindSame(t *testing.T) {
	l := nodes{number("a", 1), section("b", number("c", 2), number("c", 3)), {Name: "d", Kind: api.KindNumber, Nodes: nodes{number("e", 1)}}, number("a", 9)}
	if n, ok := Find(l, []string{"a"}); !ok || n.Number != 1 {
		t.Error("the first node")
	}
	if n, ok := Find(l, []string{"b", "c"}); !ok || n.Number != 2 {
		t.Error("a node of a section")
	}
	if n, ok := Find(l, []string{"b"}); !ok || !Same(nodes{n}, l[1:2]) {
		t.Error("a section")
	} else if n.Nodes[0].Number = 77; l[1].Nodes[0].Number != 2 {
		t.Error("Find shares memory")
	}
	for _, p := range [][]string{nil, {}, {"x"}, {"b", "x"}, {"a", "x"}, {"d", "e"}, {"b", "c", "x"}} {
		if n, ok := Find(l, p); ok || !Same(nodes{n}, nodes{{}}) {
			t.Errorf("Find %v", p)
		}
	}
	a := nodes{section("a", list("b", "x", "y"))}
	for i, b := range []nodes{nil, {section("a", list("b", "y", "x"))}, {section("a", list("b", "x"))}, {section("c", list("b", "x", "y"))}, {section("a", list("b", "x", "y"), number("z", 0))}, {{Name: "a", Kind: 4, Number: 1, Nodes: a[0].Nodes}}, {{Name: "a", Kind: 3, Nodes: a[0].Nodes}}, {{Name: "a", Kind: 4, Text: "z", Nodes: a[0].Nodes}}} {
		if Same(a, b) || Same(b, a) {
			t.Errorf("Same %d", i)
		}
	}
	if !Same(a, nodes{section("a", list("b", "x", "y"))}) || !Same(nil, nodes{}) || !Same(nodes{{List: []string{}}}, nodes{{}}) {
		t.Error("Same")
	}
}

func random(r *rand.Rand, depth int) nodes {
	var l nodes
	for i := range r.Intn(5) {
		name := "n" + strconv.Itoa(i)
		switch k := r.Intn(4); {
		case k == 0:
			l = append(l, number(name, r.Intn(1000)-500))
		case k == 1:
			l = append(l, text(name, "a\"\n\\"[:r.Intn(5)]))
		case k == 2:
			l = append(l, list(name, []string{"x", "", "\""}[:r.Intn(4)]...))
		case depth < 8:
			l = append(l, section(name, random(r, depth+1)...))
		}
	}
	return l
}

// P7.4
func TestInverse(t *testing.T) {
	r := rand.New(rand.NewSource(1))
	for range 300 {
		l := random(r, 0)
		s, e := Format(l)
		if e != api.OK {
			continue
		}
		m, _, e := Parse(s)
		if e != api.OK || !Same(l, m) {
			t.Fatalf("Parse does not undo Format of %v", l)
		}
		b := []byte(s)
		for range r.Intn(3) {
			if len(b) > 0 {
				b[r.Intn(len(b))] = "ab{}[]=,\"1 \n"[r.Intn(12)]
			}
		}
		if m, _, e := Parse(string(b)); e == api.OK {
			s, e := Format(m)
			if e == api.ErrForm {
				t.Fatalf("what Parse returns of %q is not well-formed", b)
			}
			if n, _, e2 := Parse(s); e == api.OK && (e2 != api.OK || !Same(m, n)) {
				t.Fatalf("Format of Parse of %q", b)
			}
		}
	}
}
