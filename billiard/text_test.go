package billiard_test

import (
	"math/rand"
	"strings"
	"testing"

	"flatland/api"
	"flatland/billiard"
)

const squareText = "table 0,1 0 0 1\ncorner 0 0\ncorner 1 0\ncorner 1 1\ncorner 0 1\n"

// P2.8: what Print writes.
func TestPrint(t *testing.T) {
	s, e := billiard.Print(square())
	if s != squareText || e != api.OK {
		t.Errorf("Print of the square: %q, %d", s, e)
	}
	_, p := kite(t)
	s, e = billiard.Print(p)
	if s != "table -2,0,1 1 2 1\ncorner 0 0\ncorner 3 -1\ncorner 0,1 0\ncorner 3 0,1\n" || e != api.OK {
		t.Errorf("Print of the kite: %q, %d", s, e)
	}
	_, p = pentagon(t)
	s, e = billiard.Print(p)
	if !strings.HasPrefix(s, "table 5,0,-5,0,1 3 4 2\ncorner 1 0\ncorner -3,0,1/2 0,1/2\ncorner 2,0,-1/2 0,-3,0,1/2\n") || e != api.OK {
		t.Errorf("Print of the pentagon: %q, %d", s, e)
	}
	for _, c := range []struct {
		p api.Table
		e api.Errno
	}{{api.Table{}, api.ErrShape}, {polygon(0, 0, 1, 0), api.ErrShape}, {polygon(0, 0, 0, 1, 1, 0), api.ErrForm}, {api.Table{Field: api.Field{Poly: []int{2, 0, 1}, Den: 1}}, api.ErrNone}} {
		s, e := billiard.Print(c.p)
		want(t, "Print of a bad table", e, c.e)
		want(t, "its text", s, "")
	}
}

// P2.8, P2.9: what Print writes is read back, in normal form.
func TestPrintParse(t *testing.T) {
	r := rand.New(rand.NewSource(13))
	_, five := pentagon(t)
	_, four := kite(t)
	_, thin := sliver(t)
	list := []api.Table{square(), triangle(), angle(), cave(), five, four, thin}
	for range 20 {
		list = append(list, randomPolygon(r, 9))
	}
	for _, p := range list {
		s, e := billiard.Print(untidyTable(r, p))
		want(t, "Print", e, api.OK)
		q, line, e := billiard.Parse(s)
		wantSame(t, "Parse of Print", sameTable, q, e, p, api.OK)
		want(t, "the line", line, 0)
		again, _ := billiard.Print(q)
		want(t, "Print again", again, s)
	}
}

// P2.8: texts that are refused.
func TestParseErrors(t *testing.T) {
	const head = "table 0,1 0 0 1\n"
	for _, c := range []struct {
		what, text string
		line       int
		e          api.Errno
	}{
		{"the square", squareText, 0, api.OK},
		{"nothing", "", 1, api.ErrSyntax},
		{"an empty line", "\n", 1, api.ErrSyntax},
		{"an empty line in front", "\n" + squareText, 1, api.ErrSyntax},
		{"an empty line behind", squareText + "\n", 6, api.ErrSyntax},
		{"an empty line between", head + "\ncorner 0 0\n", 2, api.ErrSyntax},
		{"no line feed", strings.TrimSuffix(squareText, "\n"), 5, api.ErrSyntax},
		{"no line feed at the end of the first line", "table 0,1 0 0 1", 1, api.ErrSyntax},
		{"a carriage return", "table 0,1 0 0 1\r\n", 1, api.ErrSyntax},
		{"a carriage return at a corner", head + "corner 0 0\r\n", 2, api.ErrSyntax},
		{"another word", "Table 0,1 0 0 1\n", 1, api.ErrSyntax},
		{"a longer word", "tables 0,1 0 0 1\n", 1, api.ErrSyntax},
		{"no field", "table\n", 1, api.ErrSyntax},
		{"an empty field", "table \n", 1, api.ErrSyntax},
		{"two blanks", "table  0,1 0 0 1\n", 1, api.ErrSyntax},
		{"a blank in front", " table 0,1 0 0 1\n", 1, api.ErrSyntax},
		{"a blank behind", "table 0,1 0 0 1 \n", 1, api.ErrSyntax},
		{"a plus sign", "table 0,+1 0 0 1\n", 1, api.ErrSyntax},
		{"a field that is not valid", "table 1,-2,1 0 2 1\ncorner 0 0\n", 1, api.ErrSyntax},
		{"a corner first", "corner 0 0\n" + squareText, 1, api.ErrSyntax},
		{"a second table", head + head, 2, api.ErrSyntax},
		{"a table at the end", squareText + head, 6, api.ErrSyntax},
		{"another word for a corner", head + "corners 0 0\n", 2, api.ErrSyntax},
		{"one number", head + "corner 0 0\ncorner 0\n", 3, api.ErrSyntax},
		{"three numbers", head + "corner 0 0 0\n", 2, api.ErrSyntax},
		{"no numbers", head + "corner\n", 2, api.ErrSyntax},
		{"two blanks at a corner", head + "corner 0  0\n", 2, api.ErrSyntax},
		{"a blank behind a corner", head + "corner 0 0 \n", 2, api.ErrSyntax},
		{"a tab", head + "corner\t0 0\n", 2, api.ErrSyntax},
		{"-0", head + "corner 0 0\ncorner 1 -0\n", 3, api.ErrSyntax},
		{"leading zeros", head + "corner 01 0\n", 2, api.ErrSyntax},
		{"a fraction not in lowest terms", head + "corner 2/4 0\n", 2, api.ErrSyntax},
		{"a number of another field", head + "corner 0 0\ncorner 0,1 0\n", 3, api.ErrSyntax},
		{"the wrong X comes before a later line", head + "corner x 0\nfoo\n", 2, api.ErrSyntax},
		{"the wrong Y", head + "corner 0 x\n", 2, api.ErrSyntax},
		{"a long number", head + "corner " + strings.Repeat("1", 1601) + " 0\n", 2, api.ErrSyntax},
		{"a wrong line before the missing line feed", head + "foo\ncorner 0 0", 2, api.ErrSyntax},
		{"a bad table and a wrong line", head + "corner 0 0\ncorner 1 0\nfoo\n", 4, api.ErrSyntax},
		{"no corners", head, 0, api.ErrShape},
		{"two corners", head + "corner 0 0\ncorner 1 0\n", 0, api.ErrShape},
		{"thirteen corners", head + strings.Repeat("corner 0 0\n", 13), 0, api.ErrLarge},
		{"clockwise", head + "corner 0 0\ncorner 0 1\ncorner 1 0\n", 0, api.ErrForm},
		{"a long text", squareText + strings.Repeat("x", 20001-len(squareText)), 0, api.ErrLarge},
		{"a text of 20000 bytes", squareText + strings.Repeat("x", 20000-len(squareText)), 6, api.ErrSyntax},
		{"a long text without a table", strings.Repeat("\n", 20001), 0, api.ErrLarge},
		{"20000 bytes of line feeds", strings.Repeat("\n", 20000), 1, api.ErrSyntax},
	} {
		p, line, e := billiard.Parse(c.text)
		wantCode(t, "Parse of "+c.what, []int{line}, e, []int{c.line}, c.e)
		if c.e != api.OK && !sameTable(p, api.Table{}) {
			t.Errorf("Parse of %s: there is a table beside the error", c.what)
		}
	}
	p, _, e := billiard.Parse("table 0,1 0 0 1\ncorner " + strings.Repeat("1", 1600) + " 0\ncorner 0 1/2\ncorner 0 0\n")
	want(t, "Parse of a number of 1600 digits", e, api.OK)
	s, _ := billiard.Print(p)
	want(t, "the length of its text", len(s), 16+7+1600+3+13+11)
}
