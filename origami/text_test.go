package origami_test

import (
	"fmt"
	"math/rand"
	"slices"
	"strings"
	"testing"

	"flatland/api"
	"flatland/origami"
)

// P6.9, P6.10: texts, and back.
func TestTexts(t *testing.T) {
	s, e := origami.Print(ell())
	wantList(t, "Print of the L", []string{s}, e, []string{"right 1 0 2\nup 2 1 0\n"}, api.OK)
	s, e = origami.Print(torus())
	wantList(t, "Print of a square", []string{s}, e, []string{"right 0\nup 0\n"}, api.OK)
	o, e := origami.Parse("right 1 2 3 4 5 6 7 8 9 10 0\nup 10 0 1 2 3 4 5 6 7 8 9\n")
	x := grid(11, 0, 1)
	wantOrigami(t, "Parse of eleven squares", o, e, squares(x.Right, turnedBy180(x).Right), api.OK)
	for _, o := range slices.Concat(some(25), []api.Origami{squares(identity(60), identity(60)), grid(60, 30, 1)}) {
		s, e := origami.Print(o)
		var right strings.Builder
		right.WriteString("right")
		for _, x := range o.Right {
			right.WriteString(fmt.Sprint(" ", x))
		}
		right.WriteString("\nup")
		for _, x := range o.Up {
			right.WriteString(fmt.Sprint(" ", x))
		}
		right.WriteString("\n")
		wantList(t, "Print", []string{s}, e, []string{right.String()}, api.OK)
		x, e := origami.Parse(s)
		wantOrigami(t, "Parse", x, e, o, api.OK)
	}
}

// P6.9: texts of no origamis.
func TestNoOrigamis(t *testing.T) {
	for _, s := range []string{
		"", "\n", "\n\n", " ", "right", "right\n", "right\nup", "right\nup\n", "right \nup \n", "right 0", "right 0\n", "right 0\nup", "right 0\nup 0", "up 0\n", "up 0\nright 0\n",
		"right 0 \nup 0\n", "right  0\nup 0\n", " right 0\nup 0\n", "right 0\n up 0\n", "right 0\nup 0 \n", "right 0\nup  0\n", "right\t0\nup 0\n", "right 0\r\nup 0\r\n",
		"right 0\nup 0\n\n", "\nright 0\nup 0\n", "right 0\n\nup 0\n", "right 0\nup 0\nright 0\nup 0\n", "right 0\nup 0\n ", "right 0\nup 0\n0", "right 0 up 0\n", "right 0\x00\nup 0\n",
		"Right 0\nup 0\n", "right 0\nUp 0\n", "right 0\ndown 0\n", "left 0\nup 0\n", "right0\nup0\n", "right: 0\nup: 0\n", "righ 0\nup 0\n", "0\n0\n", "right 0\nu 0\n",
		"right 00\nup 0\n", "right 0\nup 00\n", "right +0\nup 0\n", "right -0\nup 0\n", "right 0\nup -0\n", "right 01 0\nup 0 1\n", "right 1 0\nup 0 +1\n", "right 0x0\nup 0\n", "right 0_0\nup 0\n", "right 0.\nup 0\n", "right a\nup 0\n", "right ٠\nup 0\n", "right 0,1\nup 0,1\n",
		"right 1\nup 0\n", "right 0\nup 1\n", "right -1\nup 0\n", "right 0 0\nup 0 1\n", "right 0 1\nup 1 1\n", "right 0 1\nup 0\n", "right 0\nup 0 1\n", "right 1 2\nup 1 2\n",
		"right 18446744073709551616\nup 0\n", "right 9223372036854775808 0\nup 0 1\n",
		"right " + strings.Repeat(" ", 900) + "\nup 0\n", strings.Repeat("0 ", 500), strings.Repeat("\n", 1000),
		textOf(grid(61, 0, 1)), textOf(squares(identity(100), identity(100))),
	} {
		o, e := origami.Parse(s)
		wantOrigami(t, "Parse of "+s[:min(60, len(s))], o, e, api.Origami{}, api.ErrSyntax)
	}
	for _, s := range []string{strings.Repeat(" ", 1001), strings.Repeat("\n", 1001), "right 0\nup 0\n" + strings.Repeat(" ", 988), textOf(squares(identity(200), identity(200))), strings.Repeat("x", 1000000)} {
		want(t, "a text is large", len(s) > 1000, true)
		o, e := origami.Parse(s)
		wantOrigami(t, "Parse of a large text", o, e, api.Origami{}, api.ErrLarge)
	}
	o, e := origami.Parse("right 0\nup 0\n" + strings.Repeat(" ", 987))
	wantOrigami(t, "Parse of 1000 bytes", o, e, api.Origami{}, api.ErrSyntax)
}

// textOf writes an origami that need not be valid.
func textOf(o api.Origami) string {
	line := func(word string, l []int) string { return word + " " + strings.Trim(fmt.Sprint(l), "[]") + "\n" }
	return line("right", o.Right) + line("up", o.Up)
}

// P6.9: whatever is read is written so.
func TestChangedTexts(t *testing.T) {
	r := rand.New(rand.NewSource(26))
	read := 0
	for range 30000 {
		b := []byte("right 1 0 2\nup 2 1 0\n")
		for range 1 + r.Intn(3) {
			i := r.Intn(len(b))
			switch c := "012 \nrp-+"[r.Intn(9)]; r.Intn(3) {
			case 0:
				b[i] = c
			case 1:
				b = slices.Insert(b, i, c)
			default:
				b = slices.Delete(b, i, i+1)
			}
		}
		o, e := origami.Parse(string(b))
		if e == api.OK {
			read++
			s, e := origami.Print(o)
			wantList(t, "Print", []string{s}, e, []string{string(b)}, api.OK)
			want(t, "Check", origami.Check(o), api.OK)
			continue
		}
		wantOrigami(t, "Parse of "+string(b), o, e, api.Origami{}, api.ErrSyntax)
	}
	want(t, "some texts are read", read > 100, true)
}
