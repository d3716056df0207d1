package surface_test

import (
	"math/rand"
	"slices"
	"testing"

	"flatland/api"
	"flatland/field"
	"flatland/surface"
)

// changedTorus returns the torus after a change.
func changedTorus(change func(s *api.Surface)) api.Surface {
	s := torus()
	change(&s)
	return s
}

// P3.1: the errors of surfaces, in their order.
func TestCheck(t *testing.T) {
	bad := api.Field{Poly: []int{-2, 0, 1}, Lo: -2, Hi: 2, Den: 1}
	_, eight := octagon(t)
	_, five := pentagons(t)
	many := squares(make([]int, 0), nil)
	for range 501 {
		many.Faces, many.Glue = append(many.Faces, nil), append(many.Glue, nil)
	}
	for _, c := range []struct {
		what string
		s    api.Surface
		e    api.Errno
	}{
		{"the torus", torus(), api.OK},
		{"the L", ell(), api.OK},
		{"the cut torus", cutTorus(), api.OK},
		{"the octagon", eight, api.OK},
		{"two pentagons", five, api.OK},
		{"two components", both(torus(), ell()), api.OK},
		{"nothing", api.Surface{}, api.ErrShape},
		{"a field with two roots, and no faces", api.Surface{Field: bad}, api.ErrNone},
		{"no faces", api.Surface{Field: field.Rational()}, api.ErrShape},
		{"no faces, but partners", api.Surface{Field: field.Rational(), Glue: torus().Glue}, api.ErrShape},
		{"501 faces", many, api.ErrLarge},
		{"501 faces, and no partners", api.Surface{Field: many.Field, Faces: many.Faces}, api.ErrLarge},
		{"no lists of partners", changedTorus(func(s *api.Surface) { s.Glue = nil }), api.ErrShape},
		{"a list of partners too many, and a wrong face", changedTorus(func(s *api.Surface) { s.Glue = append(s.Glue, nil); s.Faces[0][0] = vec(2, 0) }), api.ErrShape},
		{"a face without edges", api.Surface{Field: field.Rational(), Faces: [][]api.Vec{nil}, Glue: [][]api.Slot{nil}}, api.ErrShape},
		{"two edges", api.Surface{Field: field.Rational(), Faces: [][]api.Vec{face(1, 0, -1, 0)}, Glue: [][]api.Slot{partners(0, 1, 0, 0)}}, api.ErrShape},
		{"25 edges", api.Surface{Field: field.Rational(), Faces: [][]api.Vec{make([]api.Vec, 25)}, Glue: [][]api.Slot{nil}}, api.ErrLarge},
		{"24 edges without vectors", api.Surface{Field: field.Rational(), Faces: [][]api.Vec{make([]api.Vec, 24)}, Glue: [][]api.Slot{make([]api.Slot, 24)}}, api.ErrForm},
		{"a partner too few", changedTorus(func(s *api.Surface) { s.Glue[0] = s.Glue[0][:3] }), api.ErrShape},
		{"a partner too many, and a wrong face", changedTorus(func(s *api.Surface) { s.Glue[0] = append(s.Glue[0], slot(0, 0)); s.Faces[0][0] = vec(2, 0) }), api.ErrShape},
		{"a wrong face before one without edges", api.Surface{Field: field.Rational(), Faces: [][]api.Vec{face(1, 0, 0, 1, 1, 1), nil}, Glue: [][]api.Slot{make([]api.Slot, 3), nil}}, api.ErrForm},
		{"one without edges before a wrong face", api.Surface{Field: field.Rational(), Faces: [][]api.Vec{nil, face(1, 0, 0, 1, 1, 1)}, Glue: [][]api.Slot{nil, make([]api.Slot, 3)}}, api.ErrShape},
		{"a wrong partner before a wrong face", both(changedTorus(func(s *api.Surface) { s.Glue[0][0] = slot(9, 0) }), changedTorus(func(s *api.Surface) { s.Faces[0][0] = vec(2, 0) })), api.ErrForm},
		{"no such face", changedTorus(func(s *api.Surface) { s.Glue[0][0] = slot(1, 0) }), api.ErrMissing},
		{"its own partner", changedTorus(func(s *api.Surface) { s.Glue[0][0] = slot(0, 0) }), api.ErrGlue},
		{"another partner", changedTorus(func(s *api.Surface) { s.Glue[0][0] = slot(0, 3) }), api.ErrGlue},
		{"a wrong slot before a missing one", changedTorus(func(s *api.Surface) { s.Glue[0][0] = slot(0, 0); s.Glue[0][1] = slot(0, 4) }), api.ErrGlue},
		{"a missing slot before a wrong one", changedTorus(func(s *api.Surface) { s.Glue[0][0] = slot(0, 4); s.Glue[0][1] = slot(0, 1) }), api.ErrMissing},
		{"parallel edges of other lengths", api.Surface{Field: field.Rational(), Faces: [][]api.Vec{face(2, 0, 0, 1, -1, 0, -1, 0, 0, -1)}, Glue: [][]api.Slot{partners(0, 2, 0, 4, 0, 0, 0, 3, 0, 1)}}, api.ErrGlue},
		{"neighbours that are glued", api.Surface{Field: field.Rational(), Faces: [][]api.Vec{face(1, 0, 0, 1, -1, 0, 0, -1)}, Glue: [][]api.Slot{partners(0, 1, 0, 0, 0, 3, 0, 2)}}, api.ErrGlue},
		{"equal vectors that are glued", both(cutTorus(), cutTorus()), api.OK},
		{"a torus of two triangles that are not turned", api.Surface{Field: field.Rational(), Faces: [][]api.Vec{face(1, 0, 0, 1, -1, -1), face(1, 0, 0, 1, -1, -1)}, Glue: [][]api.Slot{partners(1, 0, 1, 1, 1, 2), partners(0, 0, 0, 1, 0, 2)}}, api.ErrGlue},
	} {
		want(t, "Check of "+c.what, surface.Check(c.s), c.e)
	}
	for _, at := range badSlots() {
		want(t, "Check with no such partner", surface.Check(changedTorus(func(s *api.Surface) { s.Glue[0][2] = at })), api.ErrGlue)
		want(t, "Check with no such partner at first", surface.Check(changedTorus(func(s *api.Surface) { s.Glue[0][0] = at })), api.ErrMissing)
	}
}

// P3.1: faces that are right, or not.
func TestRight(t *testing.T) {
	var many []int
	for range 11 {
		many = append(many, 1, 0)
	}
	many = append(many, 0, 1)
	for range 11 {
		many = append(many, -1, 0)
	}
	many = append(many, 0, -1)
	for _, c := range []struct {
		what  string
		edges []api.Vec
		e     api.Errno
	}{
		{"a triangle", face(2, 0, 0, 2, -2, -2), api.OK},
		{"a clockwise triangle", face(0, 2, 2, 0, -2, -2), api.ErrForm},
		{"a triangle without area", face(1, 0, 1, 0, -2, 0), api.ErrForm},
		{"a zero edge", face(1, 0, 0, 0, 0, 1, -1, -1), api.ErrForm},
		{"edges that do not close up", face(1, 0, 0, 1, -1, 0, 0, -2), api.ErrForm},
		{"a straight corner", face(1, 0, 1, 0, 0, 1, -2, -1), api.OK},
		{"a straight corner 0", face(1, 0, 0, 1, -2, -1, 1, 0), api.OK},
		{"24 edges with many straight corners", face(many...), api.OK},
		{"a reflex corner", face(2, 0, -1, 1, 0, 2, -1, -3), api.OK},
		{"an edge that goes back", face(2, 0, -1, 0, 0, 1, -1, -1), api.ErrForm},
		{"an edge that goes back beyond the corner", face(1, 0, -2, 0, 1, 2, 0, -2), api.ErrForm},
		{"the last edge goes back", face(1, 1, 1, -1, 1, 0, -3, 0), api.ErrForm},
		{"edges that cross", face(2, 0, 0, 2, -2, 1, 1, -4, -1, 1), api.ErrForm},
		{"a figure eight with area", face(3, 0, 0, 3, -4, -4, 0, 1, 1, 0), api.ErrForm},
		{"a corner on an edge", face(2, 0, 0, 2, -1, -2, -1, 2, 0, -2), api.ErrForm},
		{"a corner on a corner", face(2, 0, -1, 1, 1, 1, -2, 0, 1, -1, -1, -1), api.ErrForm},
		{"edges on one line that overlap", face(3, 0, 0, 1, -2, 0, 0, -1, 1, 0, 0, 3, -2, 0, 0, -3), api.ErrForm},
		{"edges on one line with a gap", face(1, 0, 0, 1, 1, 0, 0, -1, 1, 0, 0, 3, -3, 0, 0, -3), api.OK},
		{"two turns", face(5, 0, 0, 5, -5, 0, 1, -4, 3, 0, 0, 3, -3, 0, -1, -4), api.ErrForm},
	} {
		want(t, "Check of "+c.what, surface.Check(alone(c.edges)), c.e)
		want(t, "the definition of "+c.what, isRight(c.edges), c.e == api.OK)
	}
}

// P3.1: random faces, compared with the definition; the result does not depend on the edge with which a face begins, nor on the form of the numbers.
func TestRightRandom(t *testing.T) {
	r := rand.New(rand.NewSource(1))
	right := 0
	for range 3000 {
		n := 3 + r.Intn(5)
		edges := randomFace(r, n)
		e := api.ErrForm
		if isRight(edges) {
			right++
			e = api.OK
		}
		k := r.Intn(n)
		want(t, "Check", surface.Check(alone(edges)), e)
		want(t, "Check from another edge", surface.Check(untidySurface(r, alone(slices.Concat(edges[k:], edges[:k])))), e)
	}
	if right < 300 {
		t.Errorf("only %d of the faces are right", right)
	}
}

// P3.1: the limits themselves.
func TestLimits(t *testing.T) {
	right, up := make([]int, 500), make([]int, 500)
	for i := range right {
		right[i], up[i] = (i+1)%500, i
	}
	s := squares(right, up)
	want(t, "Check of 500 faces", surface.Check(s), api.OK)
	a, e := surface.Area(s)
	wantSame(t, "Area of 500 squares", sameNum, a, e, field.Whole(500), api.OK)
	_, e = surface.Triangulate(s)
	want(t, "Triangulate of 500 squares", e, api.ErrLarge)
	_, e = surface.Delaunay(s)
	want(t, "Delaunay of 500 squares", e, api.ErrLarge)
	_, e = surface.Cells(s)
	want(t, "Cells of 500 squares", e, api.ErrLarge)
	l, e := surface.Label(s)
	want(t, "Label of 500 squares", l, "")
	want(t, "Label of 500 squares", e, api.ErrLarge)
	_, e = surface.Label(both(squares(right[:1], up[:1]), s))
	want(t, "Check of 501 squares", e, api.ErrLarge)
	_, e = surface.Cut(s, slot(7, 0), slot(7, 2))
	want(t, "Cut of 500 faces", e, api.ErrLarge)
	_, e = surface.Cut(s, slot(7, 0), slot(7, 1))
	want(t, "Cut of 500 faces between neighbours", e, api.ErrShape)
	_, e = surface.Cut(rows(2, 500), slot(7, 0), slot(7, 2))
	want(t, "Cut of 500 faces along no diagonal", e, api.ErrForm)
	_, e = surface.Cut(rows(2, 499), slot(7, 0), slot(7, 3))
	want(t, "Cut of 499 faces", e, api.OK)
	m, e := surface.Match(s, s)
	want(t, "Match of 500 faces", e, api.OK)
	want(t, "CheckMatch of 500 faces", surface.CheckMatch(s, s, m), api.OK)
	// 250 squares are 500 triangles.
	right, up = right[:250], up[:250]
	right[249] = 0
	s = squares(right, up)
	d, e := surface.Triangulate(s)
	want(t, "Triangulate of 250 squares", e, api.OK)
	want(t, "its faces", len(d.Faces), 500)
	_, e = surface.Label(s)
	want(t, "Label of 250 squares", e, api.OK)
}

// P3.1: areas, compared with the definition.
func TestArea(t *testing.T) {
	r := rand.New(rand.NewSource(2))
	for range 40 {
		s := random(r, 1+r.Intn(6))
		sum := whole(0)
		for _, edges := range s.Faces {
			g, _ := ringOf(edges)
			sum = add(sum, g.area())
		}
		a, e := surface.Area(untidySurface(r, s))
		wantSame(t, "Area", sameNum, a, e, numOf(sum), api.OK)
	}
	_, s := octagon(t)
	a, e := surface.Area(s)
	wantSame(t, "Area of the octagon", sameNum, a, e, api.Num{C: []api.Int{{8}, {8}}, D: []int{1}}, api.OK)
	a, e = surface.Area(both(torus(), ell()))
	wantSame(t, "Area of two components", sameNum, a, e, field.Whole(4), api.OK)
	a, e = surface.Area(alone(face(1, 0, 0, 1, -1, -1)))
	wantSame(t, "Area of two triangles", sameNum, a, e, field.Whole(1), api.OK)
}
