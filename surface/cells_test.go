package surface_test

import (
	"math/rand"
	"slices"
	"strconv"
	"strings"
	"testing"

	"flatland/api"
	"flatland/field"
	"flatland/surface"
)

// code returns the code of a surface from a slot, texts being the texts of the vectors.
func code(s api.Surface, first api.Slot, texts func(v api.Vec) string) string {
	entered := []api.Slot{first}
	text := ""
	for i := 0; i < len(entered); i++ {
		at := entered[i]
		for range s.Faces[at.Face] {
			to := partner(s, at)
			n := slices.IndexFunc(entered, func(x api.Slot) bool { return x.Face == to.Face })
			if n < 0 {
				n = len(entered)
				entered = append(entered, to)
			}
			steps := 0
			for x := entered[n]; x != to; x = behind(s, x, 1) {
				steps++
			}
			text += texts(edge(s, at)) + " " + strconv.Itoa(n) + " " + strconv.Itoa(steps) + ";"
			at = behind(s, at, 1)
		}
		text += "\n"
	}
	return text
}

// label returns the label of a surface that is made of its cells.
func label(t *testing.T, s api.Surface) string {
	r := open(t, s.Field, api.OK)
	name, _ := field.FormatField(s.Field)
	var codes []string
	for _, at := range slots(s) {
		codes = append(codes, code(s, at, func(v api.Vec) string { return r.Format(v.X) + " " + r.Format(v.Y) }))
	}
	return name + "\n" + slices.Min(codes)
}

// P3.4: example 3, and the label of the L, whose cells are its squares.
func TestLabelExamples(t *testing.T) {
	l, e := surface.Label(torus())
	wantList(t, "Label of the torus", []string{l}, e, []string{"0,1 0 0 1\n-1 0 0 2;0 -1 0 3;1 0 0 0;0 1 0 1;\n"}, api.OK)
	l, e = surface.Label(cutTorus())
	wantList(t, "Label of the cut torus", []string{l}, e, []string{"0,1 0 0 1\n-1 0 0 2;0 -1 0 3;1 0 0 0;0 1 0 1;\n"}, api.OK)
	l, e = surface.Label(ell())
	wantList(t, "Label of the L", []string{l}, e, []string{label(t, squares([]int{1, 0, 2}, []int{2, 1, 0}))}, api.OK)
	_, eight := octagon(t)
	l, e = surface.Label(eight)
	wantList(t, "Label of the octagon", []string{l}, e, []string{"-2,0,1 1 2 1\n-2 0 0 4;0,-1 0,-1 0 5;0 -2 0 6;0,1 0,-1 0 7;2 0 0 0;0,1 0,1 0 1;0 2 0 2;0,-1 0,1 0 3;\n"}, api.OK)
}

// turned returns the squares of which the image of a square-tiled surface under (1 1; 0 1), or (0 -1; 1 0), is made.
func turned(shear bool, right, up []int) ([]int, []int) {
	x, y := make([]int, len(right)), make([]int, len(right))
	for i := range right {
		if shear { // upwards is now upwards and then to the left
			x[i], y[right[i]] = right[i], up[i]
			continue
		}
		x[up[i]], y[i] = i, right[i]
	}
	if shear {
		for i := range right {
			y[i] = slices.Index(right, up[i])
		}
	}
	return x, y
}

// P3.4: square-tiled surfaces, mapped by matrices of whole numbers with the determinant 1, are made of squares again: these are their cells.
func TestLabelSquares(t *testing.T) {
	r := rand.New(rand.NewSource(8))
	for range 40 {
		right, up := connected(r, 1+r.Intn(7))
		s := squares(right, up)
		for range r.Intn(6) {
			m := mat(0, -1, 1, 0)
			shear := r.Intn(2) == 0
			if shear {
				m = mat(1, 1, 0, 1)
			}
			right, up = turned(shear, right, up)
			s, _ = surface.Apply(s, m)
			s = jumbled(r, s, r.Intn(8))
		}
		l, e := surface.Label(untidySurface(r, s))
		wantList(t, "Label", []string{l}, e, []string{label(t, squares(right, up))}, api.OK)
		c, e := surface.Cells(untidySurface(r, s))
		want(t, "Cells", e, api.OK)
		_, e = surface.Match(c, squares(right, up))
		want(t, "Match of Cells and the squares", e, api.OK)
	}
}

// P3.4: cells are inscribed in circles, no corner of a neighbour is in the circle or on it, and the label is the least code of the cells.
func TestCells(t *testing.T) {
	r := rand.New(rand.NewSource(9))
	count := map[int]bool{}
	for range 100 {
		s := random(r, 1+r.Intn(7))
		c, e := surface.Cells(untidySurface(r, s))
		want(t, "Cells", e, api.OK)
		wantKept(t, "Cells", s, c)
		for _, edges := range c.Faces {
			count[len(edges)] = true
			g, _ := ringOf(edges)
			m := centre(g[0], g[1], g[2])
			for _, p := range g {
				want(t, "the distance from the centre", square(m, p).Cmp(square(m, g[0])), 0)
			}
		}
		for _, at := range slots(c) {
			want(t, "a corner of a neighbour", opposite(c, at), -1)
		}
		l, e := surface.Label(untidySurface(r, s))
		wantList(t, "Label", []string{l}, e, []string{label(t, c)}, api.OK)
	}
	want(t, "cells with three edges", count[3], true)
	want(t, "cells with four edges", count[4], true)
}

// P3.4: cells over other fields.
func TestCellsFields(t *testing.T) {
	r := rand.New(rand.NewSource(10))
	_, eight := octagon(t)
	_, five := pentagons(t)
	for _, s := range []api.Surface{eight, five} {
		for range 8 {
			x := jumbled(r, s, 3)
			d, _ := surface.Triangulate(x)
			for range 10 {
				if y, e := surface.Flip(d, slots(d)[r.Intn(3*len(d.Faces))]); e == api.OK {
					d = y
				}
			}
			c, e := surface.Cells(untidySurface(r, d))
			want(t, "Cells", e, api.OK)
			want(t, "the number of cells", len(c.Faces), len(s.Faces))
			_, e = surface.Match(s, c)
			want(t, "Match of a regular polygon and its cells", e, api.OK)
			l, e := surface.Label(d)
			wantList(t, "Label", []string{l}, e, []string{label(t, s)}, api.OK)
		}
	}
	c, e := surface.Cells(both(eight, eight))
	want(t, "Cells of two components", e, api.OK)
	want(t, "their number", len(c.Faces), 2)
}

// halves returns both halves of a polygon of n edges, n being even, whose corners are on a circle, with opposite edges glued.
func halves(n int) api.Surface {
	var edges []api.Vec
	at := func(i int) point {
		// The points (1 - a^2, 2 a)/(1 + a^2) of the unit circle, from the right to the left.
		a := quo(whole(int64(i)), whole(3))
		d := add(whole(1), mul(a, a))
		return point{quo(sub(whole(1), mul(a, a)), d), quo(mul(whole(2), a), d)}
	}
	for i := range n / 2 {
		end := at(0).times(whole(-1))
		if i < n/2-1 {
			end = at(i + 1)
		}
		v := end.minus(at(i))
		edges = append(edges, api.Vec{X: numOf(v.x), Y: numOf(v.y)})
	}
	return alone(append(edges, vec(2, 0)))
}

// P3.4: a cell may have just as many edges as a face.
func TestLargeCells(t *testing.T) {
	s := halves(24)
	c, e := surface.Cells(s)
	want(t, "Cells of 24 edges", e, api.OK)
	joined, e := surface.Join(s, slot(0, 12))
	want(t, "Join of both halves", e, api.OK)
	_, e = surface.Match(c, joined)
	want(t, "Match of the cell and both halves", e, api.OK)
	two := halves(26)
	want(t, "Check of two halves", surface.Check(two), api.OK)
	d, e := surface.Delaunay(two)
	want(t, "Delaunay of 26 edges", e, api.OK)
	want(t, "its triangles", len(d.Faces), 24)
	for _, s := range []api.Surface{two, d} {
		c, e = surface.Cells(s)
		wantSame(t, "Cells of 26 edges", sameSurface, c, e, api.Surface{}, api.ErrLarge)
		l, e := surface.Label(s)
		wantList(t, "Label of 26 edges", []string{l}, e, []string{""}, api.ErrLarge)
	}
	_, e = surface.Label(both(two, two))
	want(t, "Label of two components of 26 edges", e, api.ErrSplit)
	_, e = surface.Cells(both(torus(), two))
	want(t, "Cells of two components, one of 26 edges", e, api.ErrLarge)
}

// P3.4: the texts of a label: faces are numbered when they are written, negative numbers and fractions are compared by their bytes.
func TestLabelText(t *testing.T) {
	m := api.Mat{A: ratio(1, 3), B: ratio(0, 1), C: ratio(0, 1), D: ratio(12, 1)}
	s, _ := surface.Apply(torus(), m)
	l, e := surface.Label(s)
	want(t, "Label of a thin torus", e, api.OK)
	want(t, "its lines", strings.Count(l, "\n"), 2)
	wantList(t, "Label of a thin torus", []string{l}, e, []string{"0,1 0 0 1\n-1/3 0 0 2;0 -12 0 3;1/3 0 0 0;0 12 0 1;\n"}, api.OK)
	// Twelve squares in a row: numbers of two digits.
	right, up := make([]int, 12), make([]int, 12)
	for i := range right {
		right[i], up[i] = (i+1)%12, i
	}
	s = squares(right, up)
	l, e = surface.Label(s)
	wantList(t, "Label of twelve squares", []string{l}, e, []string{label(t, s)}, api.OK)
}
