package orbit_test

import (
	"fmt"
	"math/rand"
	"slices"
	"strings"
	"testing"

	"flatland/api"
	"flatland/field"
	"flatland/orbit"
	"flatland/origami"
	"flatland/surface"
)

// P7.2: the letters of the examples, and an origami for which all letters and their inverses differ.
func TestExampleAct(t *testing.T) {
	o := squares([]int{1, 2, 0, 3}, []int{3, 1, 0, 2})
	for _, c := range []struct {
		o api.Origami
		w string
		x api.Origami
	}{
		{ell(), "", ell()},
		{ell(), "T", squares([]int{1, 0, 2}, []int{2, 0, 1})},
		{ell(), "S", squares([]int{2, 1, 0}, []int{1, 0, 2})},
		{o, "S", squares([]int{2, 1, 3, 0}, []int{1, 2, 0, 3})},
		{o, "s", squares([]int{3, 1, 0, 2}, []int{2, 0, 1, 3})},
		{o, "T", squares([]int{1, 2, 0, 3}, []int{3, 0, 2, 1})},
		{o, "t", squares([]int{1, 2, 0, 3}, []int{3, 2, 1, 0})},
		{squares([]int{1, 0, 2}, []int{1, 0, 2}), "S", squares([]int{1, 0, 2}, []int{1, 0, 2})}, // of two components
	} {
		x, e := orbit.Act(c.o, c.w)
		wantOrigami(t, fmt.Sprintf("Act of %v, %q", c.o, c.w), x, e, c.x, api.OK)
	}
}

// P7.2: words act by their letters from the last one to the first one, also on what is not connected.
func TestAct(t *testing.T) {
	r := rand.New(rand.NewSource(5))
	list := append(connectedOnes(6, 20, 60), splitOrigamis()...)
	for _, o := range list {
		for _, w := range append(words("STst", 3), randomWord(r, 20), randomWord(r, 200), strings.Repeat("T", 200)) {
			x, e := orbit.Act(o, w)
			wantOrigami(t, fmt.Sprintf("Act of %v, %q", o, w), x, e, actWord(o, w), api.OK)
		}
		v, w := randomWord(r, 9), randomWord(r, 9)
		x, _ := orbit.Act(o, w)
		x, e := orbit.Act(x, v)
		wantOrigami(t, "Act twice", x, e, actWord(o, v+w), api.OK)
		x, e = orbit.Act(o, w+inverseOf(w))
		wantOrigami(t, "Act and back", x, e, o, api.OK)
	}
}

// surfaceLabel returns the label of the surface of an origami, to which a matrix was applied.
func surfaceLabel(t *testing.T, o api.Origami, m api.Unit) string {
	t.Helper()
	s, e := origami.Surface(o)
	want(t, "Surface", e, api.OK)
	s, e = surface.Apply(s, api.Mat{A: field.Whole(m.A), B: field.Whole(m.B), C: field.Whole(m.C), D: field.Whole(m.D)})
	want(t, "surface.Apply", e, api.OK)
	label, e := surface.Label(s)
	want(t, "surface.Label", e, api.OK)
	return label
}

// P7.2: a word does what its matrix does with the plane: the surfaces are the same. So do units.
func TestActOnThePlane(t *testing.T) {
	r := rand.New(rand.NewSource(7))
	for _, o := range connectedOnes(8, 20, 8) {
		for _, w := range []string{"S", "s", "T", "t", "ST", "TST", randomWord(r, 4), randomWord(r, 6)} {
			m, _ := orbit.Matrix(w)
			right := surfaceLabel(t, o, m)
			x, e := orbit.Act(o, w)
			want(t, fmt.Sprintf("the surface of Act of %v, %q", o, w), e == api.OK && surfaceLabel(t, x, one()) == right, true)
			x, e = orbit.Apply(o, m)
			want(t, fmt.Sprintf("the surface of Apply of %v, %v", o, m), e == api.OK && surfaceLabel(t, x, one()) == right, true)
		}
	}
}

// P7.2, P2: units act on labels as all words with this matrix.
func TestApply(t *testing.T) {
	x, e := orbit.Apply(ell(), one())
	wantOrigami(t, "Apply of the one", x, e, squares([]int{0, 2, 1}, []int{1, 0, 2}), api.OK)
	x, e = orbit.Apply(ell(), unit(1, 1, 0, 1))
	wantOrigami(t, "Apply of T", x, e, squares([]int{0, 2, 1}, []int{1, 2, 0}), api.OK)
	r := rand.New(rand.NewSource(9))
	for _, o := range connectedOnes(10, 20, 30) {
		o := renumbered(o, r.Perm(len(o.Right)))
		for _, w := range append(words("STst", 2), randomWord(r, 10), randomWord(r, 20), randomWord(r, 30)) {
			m, e := orbit.Matrix(w)
			if e != api.OK {
				continue
			}
			x, e := orbit.Apply(o, m)
			wantOrigami(t, fmt.Sprint("Apply of ", o, m), x, e, label(actWord(o, w)), api.OK)
		}
	}
	for _, m := range someUnits(4) {
		o := long(3, 4)
		x, e := orbit.Apply(o, m)
		wantOrigami(t, fmt.Sprint("Apply of ", o, m), x, e, label(actWord(o, wordOf(m))), api.OK)
	}
}

// P7.2: units with large entries, for which there is no word, or only one of very many letters.
func TestApplyLarge(t *testing.T) {
	r := rand.New(rand.NewSource(11))
	list := connectedOnes(12, 10, 12)
	for _, m := range []api.Unit{
		unit(1, 1000000, 0, 1), unit(1, -999983, 0, 1), unit(1, 0, 999979, 1), unit(1, 0, -1000000, 1), unit(-1, 999961, 0, -1),
		unit(1000000, 1, 999999, 1), unit(999999, 1000000, 999998, 999999), unit(-999999, 1000000, 999998, -999999),
		unit(999999, -1000000, -999998, 999999), unit(0, -1, 1, 1000000), unit(0, 1, -1, -999999), unit(1000000, -1, 1, 0),
		unit(514229, 317811, 317811, 196418), unit(-514229, 317811, 317811, -196418),
	} {
		o := list[r.Intn(4)]
		x, e := orbit.Apply(o, m)
		wantOrigami(t, fmt.Sprint("Apply of ", o, m), x, e, label(actLong(o, wordOf(m))), api.OK)
	}
	for range 300 {
		o, m, n := list[r.Intn(len(list))], randomUnit(r), randomUnit(r)
		p, e := orbit.Times(m, n)
		if e != api.OK {
			continue
		}
		x, _ := orbit.Apply(o, n)
		x, e = orbit.Apply(x, m)
		y, f := orbit.Apply(o, p)
		wantOrigami(t, fmt.Sprint("Apply of ", n, " and then of ", m), x, e, y, f)
		back, _ := orbit.Inverse(m)
		x, _ = orbit.Apply(o, m)
		x, e = orbit.Apply(x, back)
		wantOrigami(t, fmt.Sprint("Apply of ", m, " and back"), x, e, label(o), api.OK)
	}
	// A torus of rows of sixty squares goes where its lattice goes.
	for range 200 {
		m := randomUnit(r)
		o := grid(60, 0, 1)
		x, e := orbit.Apply(o, m)
		p, f := origami.Periods(x)
		want(t, "the errors", max(e, f), api.OK)
		want(t, fmt.Sprint("the lattice after ", m), p, latticeOf([2]int{60 * m.A, 60 * m.C}, [2]int{m.B, m.D}))
	}
}

// actLong acts by very many letters, turning equal ones that stand beside each other into few.
func actLong(o api.Origami, w string) api.Origami {
	for w != "" {
		c := w[len(w)-1]
		short := strings.TrimRight(w, string(c))
		// The letter has the same effect again after as many times as all numbers of squares are divisors of.
		for range (len(w) - len(short)) % 27720 {
			o = actLetter(o, c)
		}
		w = short
	}
	return o
}

// latticeOf returns the lattice of the combinations of two vectors that lies between (60, 0), (0, 60) and all whole vectors, by a search.
func latticeOf(u, v [2]int) api.Lattice {
	var in [60][60]bool
	for i := range 60 {
		for j := range 60 {
			x, y := (i*u[0]+j*v[0])%60, (i*u[1]+j*v[1])%60
			in[(x+60)%60][(y+60)%60] = true
		}
	}
	l := api.Lattice{A: 60, C: 60}
	for a := 59; a > 0; a-- {
		if in[a][0] {
			l.A = a
		}
	}
	for c := 59; c > 0; c-- {
		for b := range 60 {
			if in[b][c] {
				l.B, l.C = b%l.A, c
			}
		}
	}
	return l
}

// P7.2: a letter many times is the same as a letter as often as its cycles leave over, whatever the lengths of the rows.
func TestPowers(t *testing.T) {
	// Rows of 1 to 10 squares, one above the other at their first squares.
	o := squares(nil, nil)
	var first []int
	for n := 1; n <= 10; n++ {
		k := len(o.Right)
		first = append(first, k)
		for i := range n {
			o.Right = append(o.Right, k+(i+1)%n)
			o.Up = append(o.Up, k+i)
		}
	}
	for i, x := range first {
		o.Up[x] = first[(i+1)%len(first)]
	}
	want(t, "it is connected", isConnected(o), true)
	for _, k := range []int{0, 1, 2, 7, 10, 2520, 2519, 5041, 999999, 1000000, -1, -10, -2521, -1000000} {
		w := strings.Repeat("T", (k%2520+2520)%2520)
		x, e := orbit.Apply(o, unit(1, k, 0, 1))
		wantOrigami(t, fmt.Sprint("Apply of T ", k), x, e, label(actWord(o, w)), api.OK)
	}
}

// P7.2: the errors in their order.
func TestActErrors(t *testing.T) {
	badWords := map[string]api.Errno{strings.Repeat("x", 201): api.ErrLarge, "x": api.ErrSyntax, "T T": api.ErrSyntax}
	for w, e := range badWords {
		for _, o := range append(splitOrigamis(), ell()) {
			x, f := orbit.Act(o, w)
			wantOrigami(t, "Act with "+w, x, f, api.Origami{}, e)
		}
	}
	for what, c := range badOrigamis() {
		for w := range badWords {
			x, f := orbit.Act(c.o, w)
			wantOrigami(t, "Act of "+what, x, f, api.Origami{}, c.e)
		}
		for m := range badUnits() {
			x, f := orbit.Apply(c.o, m)
			wantOrigami(t, "Apply of "+what, x, f, api.Origami{}, c.e)
		}
	}
	for m, e := range badUnits() {
		x, f := orbit.Apply(ell(), m)
		wantOrigami(t, fmt.Sprint("Apply of ", m), x, f, api.Origami{}, e)
		for _, o := range splitOrigamis() {
			x, f = orbit.Apply(o, m)
			wantOrigami(t, fmt.Sprint("Apply of ", m, " of what is not connected"), x, f, api.Origami{}, api.ErrSplit)
		}
	}
	x, f := orbit.Apply(splitOrigamis()[0], one())
	wantOrigami(t, "Apply of what is not connected", x, f, api.Origami{}, api.ErrSplit)
}

// P7.7: S S S S and S T S T S T s s are the empty word on labels, as all other words with the matrix 1.
func TestRelations(t *testing.T) {
	var same []string
	for _, w := range words("STst", 6) {
		if m, _ := matrixOf(w); m == one() {
			same = append(same, w)
		}
	}
	want(t, "many words have the matrix 1", len(same) > 50, true)
	same = append(same, "SSSS", "STSTSTss", "STSTSTSTSTST", "TTTssTSTsts"+inverseOf("TTTssTSTsts"))
	for _, o := range connectedOnes(13, 10, 12) {
		for _, w := range same {
			x, e := orbit.Act(o, w)
			wantOrigami(t, "Act with "+w, label(x), e, label(o), api.OK)
		}
	}
	want(t, "labels differ", slices.Equal(label(ell()).Up, label(actWord(ell(), "T")).Up), false)
}
