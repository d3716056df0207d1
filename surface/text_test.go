package surface_test

import (
	"math/rand"
	"strings"
	"testing"

	"flatland/api"
	"flatland/field"
	"flatland/surface"
)

const torusText = "surface 0,1 0 0 1\nface 1 0 0 1 -1 0 0 -1\nglue 0 2 0 3 0 0 0 1\n"

// P3.10: what Print writes.
func TestPrint(t *testing.T) {
	text, e := surface.Print(torus())
	wantList(t, "Print of the torus", []string{text}, e, []string{torusText}, api.OK)
	text, e = surface.Print(cutTorus())
	wantList(t, "Print of the cut torus", []string{text}, e, []string{"surface 0,1 0 0 1\nface -1 0 0 -1 1 1\nface 1 0 0 1 -1 -1\nglue 1 0 1 1 1 2\nglue 0 0 0 1 0 2\n"}, api.OK)
	_, eight := octagon(t)
	text, e = surface.Print(eight)
	wantList(t, "Print of the octagon", []string{text}, e, []string{"surface -2,0,1 1 2 1\nface 2 0 0,1 0,1 0 2 0,-1 0,1 -2 0 0,-1 0,-1 0 -2 0,1 0,-1\nglue 0 4 0 5 0 6 0 7 0 0 0 1 0 2 0 3\n"}, api.OK)
	text, e = surface.Print(api.Surface{})
	wantList(t, "Print of no surface", []string{text}, e, []string{""}, api.ErrShape)
	text, e = surface.Print(changedTorus(func(s *api.Surface) { s.Glue[0][3] = slot(0, 3) }))
	wantList(t, "Print of a wrong surface", []string{text}, e, []string{""}, api.ErrGlue)
}

// P3.10, P3.11: what Print writes is read back, in normal form.
func TestPrintParse(t *testing.T) {
	r := rand.New(rand.NewSource(21))
	_, eight := octagon(t)
	_, five := pentagons(t)
	list := []api.Surface{torus(), ell(), cutTorus(), eight, five, both(ell(), cutTorus())}
	for range 20 {
		s, _ := surface.Apply(random(r, 1+r.Intn(6)), api.Mat{A: ratio(1, 3), B: ratio(2, 7), D: ratio(5, 2)})
		list = append(list, s)
	}
	for _, s := range list {
		text, e := surface.Print(untidySurface(r, s))
		want(t, "Print", e, api.OK)
		x, line, e := surface.Parse(text)
		wantSame(t, "Parse of Print", sameSurface, x, e, s, api.OK)
		want(t, "the line", line, 0)
		again, _ := surface.Print(x)
		want(t, "Print again", again, text)
	}
}

// P3.10: texts that are refused.
func TestParseErrors(t *testing.T) {
	const head = "surface 0,1 0 0 1\n"
	const square = "face 1 0 0 1 -1 0 0 -1\n"
	const glue = "glue 0 2 0 3 0 0 0 1\n"
	for _, c := range []struct {
		what, text string
		line       int
		e          api.Errno
	}{
		{"the torus", torusText, 0, api.OK},
		{"nothing", "", 1, api.ErrSyntax},
		{"an empty line", "\n", 1, api.ErrSyntax},
		{"an empty line in front", "\n" + torusText, 1, api.ErrSyntax},
		{"an empty line behind", torusText + "\n", 4, api.ErrSyntax},
		{"an empty line between", head + square + "\n" + glue, 3, api.ErrSyntax},
		{"no line feed", strings.TrimSuffix(torusText, "\n"), 3, api.ErrSyntax},
		{"no line feed behind a face", head + strings.TrimSuffix(square, "\n"), 2, api.ErrSyntax},
		{"no line feed at the end of the first line", strings.TrimSuffix(head, "\n"), 1, api.ErrSyntax},
		{"a carriage return", "surface 0,1 0 0 1\r\n", 1, api.ErrSyntax},
		{"a carriage return behind a face", head + "face 1 0\r\n", 2, api.ErrSyntax},
		{"another word", "Surface 0,1 0 0 1\n", 1, api.ErrSyntax},
		{"a longer word", "surfaces 0,1 0 0 1\n", 1, api.ErrSyntax},
		{"no field", "surface\n", 1, api.ErrSyntax},
		{"an empty field", "surface \n", 1, api.ErrSyntax},
		{"two blanks", "surface  0,1 0 0 1\n", 1, api.ErrSyntax},
		{"a blank in front", " " + torusText, 1, api.ErrSyntax},
		{"a blank behind", "surface 0,1 0 0 1 \n", 1, api.ErrSyntax},
		{"a plus sign", "surface 0,+1 0 0 1\n", 1, api.ErrSyntax},
		{"a field that is not valid", "surface 1,-2,1 0 2 1\n" + square + glue, 1, api.ErrSyntax},
		{"a face first", square + head, 1, api.ErrSyntax},
		{"a second surface", head + head, 2, api.ErrSyntax},
		{"a surface at the end", torusText + head, 4, api.ErrSyntax},
		{"a face behind a glue line", head + glue + square, 3, api.ErrSyntax},
		{"a face behind two glue lines", head + square + glue + glue + square, 5, api.ErrSyntax},
		{"a face behind an empty glue line", head + "glue\n" + square, 3, api.ErrSyntax},
		{"another word for a face", head + "faces 1 0\n", 2, api.ErrSyntax},
		{"another word for a glue line", head + square + "glued 0 2\n", 3, api.ErrSyntax},
		{"another line behind the glue lines", torusText + "glue 0 0 0 0\nfoo\n", 5, api.ErrSyntax},
		{"an odd number of numbers", head + "face 1 0 0\n", 2, api.ErrSyntax},
		{"an odd number of partners", head + square + "glue 0 2 0\n", 3, api.ErrSyntax},
		{"one number", head + "face 1\n", 2, api.ErrSyntax},
		{"two blanks in a face", head + "face 1  0 1 0\n", 2, api.ErrSyntax},
		{"two blanks between two numbers", head + "face 1  0\n", 2, api.ErrSyntax},
		{"a blank behind a face", head + "face 1 0 \n", 2, api.ErrSyntax},
		{"a blank behind the word", head + "face \n", 2, api.ErrSyntax},
		{"a blank in front of a face", head + " face 1 0\n", 2, api.ErrSyntax},
		{"a tab", head + "face\t1 0\n", 2, api.ErrSyntax},
		{"-0", head + "face 1 -0\n", 2, api.ErrSyntax},
		{"leading zeros", head + "face 01 0\n", 2, api.ErrSyntax},
		{"a plus sign in a face", head + "face +1 0\n", 2, api.ErrSyntax},
		{"a fraction not in lowest terms", head + "face 2/4 0\n", 2, api.ErrSyntax},
		{"a number of another field", head + square + "face 0 0,1\n", 3, api.ErrSyntax},
		{"a long number", head + "face " + strings.Repeat("1", 1601) + " 0\n", 2, api.ErrSyntax},
		{"nine digits", head + square + "glue 0 123456789\n", 3, api.ErrSyntax},
		{"nine digits at first", head + square + "glue 123456789 0\n", 3, api.ErrSyntax},
		{"nine digits and a sign", head + square + "glue 0 -123456789\n", 3, api.ErrSyntax},
		{"two signs", head + square + "glue 0 --1\n", 3, api.ErrSyntax},
		{"no digits", head + square + "glue 0 -\n", 3, api.ErrSyntax},
		{"-0 as a partner", head + square + "glue 0 -0\n", 3, api.ErrSyntax},
		{"a partner with leading zeros", head + square + "glue 0 02\n", 3, api.ErrSyntax},
		{"a partner with a plus sign", head + square + "glue 0 +2\n", 3, api.ErrSyntax},
		{"a fraction as a partner", head + square + "glue 0 1/2\n", 3, api.ErrSyntax},
		{"a letter", head + square + "glue 0 a\n", 3, api.ErrSyntax},
		{"a wrong line before the missing line feed", head + "foo\nface 1 0", 2, api.ErrSyntax},
		{"a wrong surface and a wrong line", head + "face 1 0\nglue\nfoo\n", 4, api.ErrSyntax},
		{"no faces", head, 0, api.ErrShape},
		{"a glue line, but no faces", head + glue, 0, api.ErrShape},
		{"no glue line", head + square, 0, api.ErrShape},
		{"a glue line too many", torusText + "glue\n", 0, api.ErrShape},
		{"a face without edges", head + "face\nglue\n", 0, api.ErrShape},
		{"two edges", head + "face 1 0 -1 0\nglue 0 1 0 0\n", 0, api.ErrShape},
		{"25 edges", head + "face" + strings.Repeat(" 1 0", 25) + "\nglue\n", 0, api.ErrLarge},
		{"501 faces", head + strings.Repeat("face\n", 501), 0, api.ErrLarge},
		{"a face that is not right", head + "face 1 0 0 1 1 1\nglue 0 0 0 0 0 0\n", 0, api.ErrForm},
		{"no such partner", head + square + "glue 0 12345678 0 3 0 0 0 1\n", 0, api.ErrMissing},
		{"a negative partner", head + square + "glue -1 -12345678 0 3 0 0 0 1\n", 0, api.ErrMissing},
		{"a wrong partner", head + square + "glue 0 1 0 0 0 3 0 2\n", 0, api.ErrGlue},
		{"a long text", torusText + strings.Repeat("x", 20001-len(torusText)), 0, api.ErrLarge},
		{"a text of 20000 bytes", torusText + strings.Repeat("x", 20000-len(torusText)), 4, api.ErrSyntax},
		{"a long text without a surface", strings.Repeat("\n", 20001), 0, api.ErrLarge},
		{"20000 bytes of line feeds", strings.Repeat("\n", 20000), 1, api.ErrSyntax},
	} {
		s, line, e := surface.Parse(c.text)
		wantList(t, "Parse of "+c.what, []int{line}, e, []int{c.line}, c.e)
		if c.e != api.OK {
			wantSame(t, "Parse of "+c.what, sameSurface, s, 0, api.Surface{}, 0)
		}
	}
	long := strings.Repeat("1", 1600)
	s, _, e := surface.Parse(strings.ReplaceAll(strings.ReplaceAll(torusText, "face 1", "face "+long), "-1 0", "-"+long[1:]+" 0"))
	want(t, "Parse of numbers of many digits that do not fit", e, api.ErrForm)
	want(t, "its faces", len(s.Faces), 0)
	long = long[1:]
	s, _, e = surface.Parse(strings.ReplaceAll(strings.ReplaceAll(torusText, "face 1", "face "+long), "-1 0", "-"+long+" 0"))
	want(t, "Parse of numbers of many digits", e, api.OK)
	a, e := surface.Area(s)
	want(t, "Area of a long torus", e, api.OK)
	want(t, "its text", open(t, field.Rational(), api.OK).Format(a), long)
}
