package surface_test

import (
	"math/rand"
	"slices"
	"testing"

	"flatland/api"
	"flatland/field"
	"flatland/surface"
)

// triangulated returns a triangulated random surface.
func triangulated(t *testing.T, r *rand.Rand, n int) api.Surface {
	s, e := surface.Triangulate(random(r, n))
	want(t, "Triangulate", e, api.OK)
	return s
}

// wantKept checks that a surface was changed without changing its area, angles, and label.
func wantKept(t *testing.T, what string, a, b api.Surface) {
	t.Helper()
	want(t, "Check after "+what, surface.Check(b), api.OK)
	x, _ := surface.Area(a)
	y, e := surface.Area(b)
	wantSame(t, "Area after "+what, sameNum, y, e, x, api.OK)
	k, _ := surface.Stratum(a)
	l, e := surface.Stratum(b)
	wantList(t, "Stratum after "+what, l, e, k, api.OK)
	p, _ := surface.Label(a)
	q, e := surface.Label(b)
	wantList(t, "Label after "+what, []string{q}, e, []string{p}, api.OK)
}

// P3.3, P3.11: triangulations.
func TestTriangulate(t *testing.T) {
	r := rand.New(rand.NewSource(5))
	_, eight := octagon(t)
	_, five := pentagons(t)
	list := []api.Surface{torus(), ell(), cutTorus(), eight, five}
	for range 40 {
		list = append(list, random(r, 1+r.Intn(8)))
	}
	for _, s := range list {
		d, e := surface.Triangulate(untidySurface(r, s))
		want(t, "Triangulate", e, api.OK)
		faces := 0
		for _, edges := range s.Faces {
			faces += len(edges) - 2
		}
		want(t, "the number of triangles", len(d.Faces), faces)
		for _, edges := range d.Faces {
			want(t, "the edges of a triangle", len(edges), 3)
		}
		wantKept(t, "Triangulate", s, d)
	}
	s, e := surface.Triangulate(cutTorus())
	wantSame(t, "Triangulate of triangles", sameSurface, s, e, cutTorus(), api.OK)
	s, e = surface.Triangulate(both(torus(), ell()))
	want(t, "Triangulate of two components", e, api.OK)
	c, e := surface.Components(s)
	want(t, "Components of triangles", e, api.OK)
	want(t, "the components", slices.Max(c), 1)
}

// hardFaces returns faces with many straight corners, and with long spikes.
func hardFaces() map[string][]api.Vec {
	return map[string][]api.Vec{
		"a triangle with straight corners": face(1, 0, 1, 0, 1, 0, -1, 1, -1, 1, -1, 1, 0, -1, 0, -1, 0, -1),
		"a comb":                           face(9, 0, 0, 5, -1, 0, -1, -4, -1, 4, -1, 0, -1, -4, -1, 4, -1, 0, -1, -4, -1, 4, 0, -5),
		"a spiral":                         face(9, 0, 0, 9, -7, 0, 0, -5, 3, 0, 0, 2, -1, 0, 0, 1, 3, 0, 0, -5, -7, 0, 0, 9, -1, 0, 1, -11),
		"a star":                           face(4, 1, 4, -1, -1, 4, 1, 4, -4, -1, -4, 1, 1, -4, -1, -4),
		"an edge that points at corners":   face(2, 0, 1, 0, 1, 0, 0, 1, -1, 0, 0, 1, -1, 0, 0, -1, -1, 0, 0, 1, -1, 0, 0, -2),
		"a square with a corner on each diagonal": face(4, 0, 0, 4, -2, -2, -2, 2, 0, -4),
	}
}

// P3.3: faces that are hard to cut.
func TestTriangulateFaces(t *testing.T) {
	for what, edges := range hardFaces() {
		want(t, "the definition of "+what, isRight(edges), true)
		s := alone(edges)
		d, e := surface.Triangulate(s)
		want(t, "Triangulate of "+what, e, api.OK)
		wantKept(t, "Triangulate of "+what, s, d)
	}
}

// P3.3: example 4.
func TestFlipExample(t *testing.T) {
	s, e := surface.Flip(cutTorus(), slot(1, 2))
	wantSame(t, "Flip of the cut torus", sameSurface, s, e, api.Surface{
		Field: field.Rational(),
		Faces: [][]api.Vec{face(-1, 1, 0, -1, 1, 0), face(1, -1, 0, 1, -1, 0)},
		Glue:  [][]api.Slot{partners(1, 0, 1, 1, 1, 2), partners(0, 0, 0, 1, 0, 2)},
	}, api.OK)
}

// P3.3: the errors of flips, in their order.
func TestFlipErrors(t *testing.T) {
	// Two squares with diagonals that end together at the edge between them: at the other end of this edge the corner is straight.
	s, _ := surface.Cut(squares([]int{1, 0}, []int{0, 1}), slot(0, 2), slot(0, 0))
	s, _ = surface.Cut(s, slot(1, 1), slot(1, 3))
	for _, c := range []struct {
		what string
		s    api.Surface
		at   api.Slot
		e    api.Errno
	}{
		{"the cut torus", cutTorus(), slot(0, 0), api.OK},
		{"the torus", torus(), slot(0, 0), api.ErrShape},
		{"the torus and no slot", torus(), slot(9, 9), api.ErrShape},
		{"a bad surface", api.Surface{}, slot(0, 0), api.ErrShape},
		{"an edge with a straight corner at one end", s, slot(2, 1), api.ErrForm},
		{"the same edge from the other side", s, partner(s, slot(2, 1)), api.ErrForm},
		{"one of the diagonals", s, slot(0, 2), api.OK},
		{"no slot", cutTorus(), slot(0, 3), api.ErrMissing},
		{"no face", cutTorus(), slot(2, 0), api.ErrMissing},
	} {
		_, e := surface.Flip(c.s, c.at)
		want(t, "Flip of "+c.what, e, c.e)
	}
	for _, at := range badSlots() {
		s, e := surface.Flip(cutTorus(), at)
		wantSame(t, "Flip of no slot", sameSurface, s, e, api.Surface{}, api.ErrMissing)
	}
}

// P3.3, P3.11: flips of random surfaces, compared with the definition.
func TestFlipRandom(t *testing.T) {
	r := rand.New(rand.NewSource(6))
	good, refused := 0, 0
	for range 60 {
		s := triangulated(t, r, 1+r.Intn(5))
		for _, at := range slots(s) {
			to := partner(s, at)
			right, left, back, front := behind(s, at, 1), behind(s, at, 2), behind(s, to, 1), behind(s, to, 2)
			turn := func(a, b api.Slot) int { return pointOf(edge(s, a)).cross(pointOf(edge(s, b))).Sign() }
			x, e := surface.Flip(untidySurface(r, s), at)
			if turn(left, back) <= 0 || turn(front, right) <= 0 {
				refused++
				wantSame(t, "Flip of a corner that is not convex", sameSurface, x, e, api.Surface{}, api.ErrForm)
				continue
			}
			good++
			y := deep(s)
			d := pointOf(edge(s, front)).plus(pointOf(edge(s, right)))
			vector := func(p point) api.Vec { return api.Vec{X: numOf(p.x), Y: numOf(p.y)} }
			f, g := at.Face, to.Face
			y.Faces[f] = []api.Vec{vector(d), edge(s, left), edge(s, back)}
			y.Faces[g] = []api.Vec{vector(d.times(whole(-1))), edge(s, front), edge(s, right)}
			place := map[api.Slot]api.Slot{left: slot(f, 1), back: slot(f, 2), front: slot(g, 1), right: slot(g, 2)}
			y.Glue[f][0], y.Glue[g][0] = slot(g, 0), slot(f, 0)
			for old, new := range place {
				p := partner(s, old)
				if q, ok := place[p]; ok {
					p = q
				}
				y.Glue[new.Face][new.Edge], y.Glue[p.Face][p.Edge] = p, new
			}
			wantSame(t, "Flip", sameSurface, x, e, y, api.OK)
			if r.Intn(8) == 0 {
				wantKept(t, "Flip", s, x)
			}
		}
	}
	if good < 100 || refused < 100 {
		t.Errorf("%d flips and %d that are refused", good, refused)
	}
}

// P3.4: whether edges are Delaunay, compared with the centres of the circles.
func TestDelaunay(t *testing.T) {
	r := rand.New(rand.NewSource(7))
	yes := 0
	for k := range 120 {
		s := triangulated(t, r, 1+r.Intn(6))
		if k%2 == 1 {
			s, _ = surface.Delaunay(s)
		}
		is := !slices.ContainsFunc(slots(s), func(at api.Slot) bool { return opposite(s, at) > 0 })
		if is {
			yes++
		}
		got, e := surface.IsDelaunay(untidySurface(r, s))
		wantList(t, "IsDelaunay", []bool{got}, e, []bool{is}, api.OK)
		d, e := surface.Delaunay(untidySurface(r, s))
		want(t, "Delaunay", e, api.OK)
		want(t, "the number of triangles", len(d.Faces), len(s.Faces))
		want(t, "an edge that is not Delaunay", slices.ContainsFunc(slots(d), func(at api.Slot) bool { return opposite(d, at) > 0 }), false)
		wantKept(t, "Delaunay", s, d)
		if k%2 == 1 {
			want(t, "IsDelaunay of Delaunay", is, true)
		}
	}
	if yes > 110 {
		t.Errorf("%d triangulations are Delaunay from the beginning", yes)
	}
}

// P3.4: examples and errors.
func TestDelaunayExamples(t *testing.T) {
	_, eight := octagon(t)
	_, five := pentagons(t)
	is, e := surface.IsDelaunay(cutTorus())
	wantList(t, "IsDelaunay of the cut torus", []bool{is}, e, []bool{true}, api.OK)
	s, _ := surface.Flip(cutTorus(), slot(0, 0))
	is, e = surface.IsDelaunay(s)
	wantList(t, "IsDelaunay of a thin torus", []bool{is}, e, []bool{false}, api.OK)
	for _, s := range []api.Surface{torus(), ell(), eight, five, both(cutTorus(), torus())} {
		is, e := surface.IsDelaunay(s)
		wantList(t, "IsDelaunay of a surface that is not triangulated", []bool{is}, e, []bool{false}, api.ErrShape)
		d, e := surface.Delaunay(s)
		want(t, "Delaunay", e, api.OK)
		is, e = surface.IsDelaunay(d)
		wantList(t, "IsDelaunay of Delaunay", []bool{is}, e, []bool{true}, api.OK)
	}
	is, e = surface.IsDelaunay(api.Surface{})
	wantList(t, "IsDelaunay of no surface", []bool{is}, e, []bool{false}, api.ErrShape)
}
