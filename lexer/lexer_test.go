package lexer

import (
	"math/rand"
	"slices"
	"strings"
	"testing"

	"volumegroup/api"
)

func name(s string, line, col int) api.Token {
	return api.Token{Kind: api.TokenName, Text: s, At: api.Pos{Line: line, Col: col}}
}

func sign(s string, line, col int) api.Token {
	return api.Token{Kind: api.TokenSign, Text: s, At: api.Pos{Line: line, Col: col}}
}

func text(s string, line, col int) api.Token {
	return api.Token{Kind: api.TokenText, Text: s, At: api.Pos{Line: line, Col: col}}
}

func number(n, line, col int) api.Token {
	return api.Token{Kind: api.TokenNumber, Number: n, At: api.Pos{Line: line, Col: col}}
}

func end(line, col int) api.Token {
	return api.Token{Kind: api.TokenEnd, At: api.Pos{Line: line, Col: col}}
}

// P6.1
func TestTokens(t *testing.T) {
	for _, c := range []struct {
		s    string
		want []api.Token
	}{
		{"", []api.Token{end(1, 1)}},
		{"a = 5 # x", []api.Token{name("a", 1, 1), sign("=", 1, 3), number(5, 1, 5), end(1, 10)}},
		{"x-1", []api.Token{name("x-1", 1, 1), end(1, 4)}},
		{"x -1", []api.Token{name("x", 1, 1), number(-1, 1, 3), end(1, 5)}},
		{"12a 007 -12 - -0 0 00 1.5 +1 -007 --1", []api.Token{name("12a", 1, 1), name("007", 1, 5), number(-12, 1, 9), name("-", 1, 13), name("-0", 1, 15), number(0, 1, 18), name("00", 1, 20), name("1.5", 1, 23), name("+1", 1, 27), name("-007", 1, 30), name("--1", 1, 35), end(1, 38)}},
		{"{}[],=", []api.Token{sign("{", 1, 1), sign("}", 1, 2), sign("[", 1, 3), sign("]", 1, 4), sign(",", 1, 5), sign("=", 1, 6), end(1, 7)}},
		{"#c\n\t \"a\\\"\\\\\\n~ #\"b#\n#", []api.Token{text("a\"\\\n~ #", 2, 3), name("b", 2, 15), end(3, 2)}},
		{"\n\n", []api.Token{end(3, 1)}},
		{"9007199254740992 -9007199254740992", []api.Token{number(1<<53, 1, 1), number(-1<<53, 1, 18), end(1, 35)}},
		{"azAZ09_.+-", []api.Token{name("azAZ09_.+-", 1, 1), end(1, 11)}},
		{"\"\"\"x\"", []api.Token{text("", 1, 1), text("x", 1, 3), end(1, 6)}},
		{"# \xff\x00\r", []api.Token{end(1, 6)}},
		{strings.Repeat(" ", api.MaxText), []api.Token{end(1, api.MaxText+1)}},
	} {
		if l, p, e := Tokens(c.s); e != api.OK || p != (api.Pos{}) || !slices.Equal(l, c.want) {
			t.Errorf("Tokens of %q: %v, %v, %d", c.s, l, p, e)
		}
	}
}

// P6.2
func TestErrors(t *testing.T) {
	for _, c := range []struct {
		s         string
		line, col int
		want      api.Errno
	}{
		{strings.Repeat("!", api.MaxText+1), 1, 1, api.ErrLimit},
		{"a\n !", 2, 2, api.ErrSyntax},
		{"a\r", 1, 2, api.ErrSyntax},
		{"a \"a\\\"b", 1, 3, api.ErrSyntax},
		{"\"a\nb\"", 1, 1, api.ErrSyntax},
		{"\"\\t\"", 1, 1, api.ErrSyntax},
		{"\"\x7f\"", 1, 1, api.ErrSyntax},
		{"\"\\", 1, 1, api.ErrSyntax},
		{"\"", 1, 1, api.ErrSyntax},
		{"\x80", 1, 1, api.ErrSyntax},
		{"x:", 1, 2, api.ErrSyntax},
		{"a 9007199254740993 !", 1, 3, api.ErrRange},
		{"a\n-9007199254740993", 2, 1, api.ErrRange},
		{"99999999999999999999999999999999999999999999", 1, 1, api.ErrRange},
		{"18446744073709551617", 1, 1, api.ErrRange},
		{"! 9007199254740993", 1, 1, api.ErrSyntax},
	} {
		if l, p, e := Tokens(c.s); e != c.want || l != nil || p.Line != c.line || p.Col != c.col {
			t.Errorf("Tokens of %.40q: %v, %v, %d", c.s, l, p, e)
		}
	}
}

// P6.3
func TestQuote(t *testing.T) {
	if s, e := Quote("a\"b\\c\n d~"); e != api.OK || s != `"a\"b\\c\n d~"` {
		t.Errorf("Quote: %s, %d", s, e)
	}
	if s, e := Quote(""); e != api.OK || s != `""` {
		t.Error("Quote of nothing")
	}
	for b := range 256 {
		_, e := Quote(string([]byte{byte(b)}))
		if (e == api.OK) != (b == '\n' || b >= 32 && b <= 126) || e != api.OK && e != api.ErrForm {
			t.Errorf("Quote of byte %d: %d", b, e)
		}
	}
}

// P6.4
func TestQuoteTokens(t *testing.T) {
	r := rand.New(rand.NewSource(1))
	for range 200 {
		b := make([]byte, r.Intn(30))
		for i := range b {
			b[i] = "\n\"\\ab~ #{"[r.Intn(9)]
		}
		q, _ := Quote(string(b))
		l, _, e := Tokens(q)
		if e != api.OK || !slices.Equal(l, []api.Token{text(string(b), 1, 1), end(1, len(q)+1)}) {
			t.Fatalf("Tokens of %s: %v, %d", q, l, e)
		}
	}
	a, _, _ := Tokens(`a={b"c"5}`)
	b, _, _ := Tokens(" a\t= # {\n{ b \"c\" #\n5 } ")
	for i := range a {
		b[i].At = a[i].At
	}
	if !slices.Equal(a, b) {
		t.Error("blanks change tokens")
	}
}
