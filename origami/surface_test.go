package origami_test

import (
	"fmt"
	"math/rand"
	"slices"
	"testing"

	"flatland/api"
	"flatland/field"
	"flatland/origami"
	"flatland/surface"
)

// surfaceByHand is the surface of an origami by the definition alone.
func surfaceByHand(o api.Origami) api.Surface {
	s := api.Surface{Field: api.Field{Poly: []int{0, 1}, Den: 1}}
	for x := range o.Right {
		s.Faces = append(s.Faces, []api.Vec{whole(1, 0), whole(0, 1), whole(-1, 0), whole(0, -1)})
		s.Glue = append(s.Glue, []api.Slot{{Face: downOf(o, x), Edge: 2}, {Face: rightOf(o, x), Edge: 3}, {Face: upOf(o, x), Edge: 0}, {Face: leftOf(o, x), Edge: 1}})
	}
	return s
}

// P6.8, P6.10: surfaces, and back.
func TestSurface(t *testing.T) {
	for _, o := range some(22) {
		right := surfaceByHand(o)
		s, e := origami.Surface(o)
		wantSame(t, "Surface", sameSurface, s, e, right, api.OK)
		want(t, "it is a surface", surface.Check(s), api.OK)
		x, e := origami.FromSurface(s)
		wantOrigami(t, "FromSurface", x, e, o, api.OK)
		n, e := surface.Components(s)
		wantList(t, "its components", n, e, componentNumbers(o), api.OK)
	}
}

// componentNumbers returns the number of the component of each square.
func componentNumbers(o api.Origami) []int {
	numbers := make([]int, len(o.Right))
	for i, p := range parts(o) {
		for _, x := range p {
			numbers[x] = i
		}
	}
	return numbers
}

// P6.10: surfaces have the same label just if the origamis have.
func TestSurfaceLabels(t *testing.T) {
	r := rand.New(rand.NewSource(23))
	list := connected(small(3))
	for range 12 {
		o := randomConnected(r, 4)
		list = append(list, o, renumbered(o, r.Perm(len(o.Right))))
	}
	origamis, surfaces := map[string]string{}, map[string]string{}
	for _, o := range list {
		x, _, e := origami.Label(o)
		s, f := surface.Label(mustSurface(t, o))
		want(t, "Label", e == api.OK && f == api.OK, true)
		a := fmt.Sprint(x)
		if old, ok := surfaces[a]; ok {
			want(t, "the label of the surface", s, old)
		}
		if old, ok := origamis[s]; ok {
			want(t, "the label of the origami", a, old)
		}
		surfaces[a], origamis[s] = s, a
	}
}

// P6.8: other fields, and numbers that are not in normal form.
func TestFromOtherFields(t *testing.T) {
	root, _ := field.Root(2)
	fourth, _ := field.Cosine(15)
	for _, f := range []api.Field{root, fourth, {Poly: []int{-1, 1}, Lo: 0, Hi: 3, Den: 2}} {
		s := mustSurface(t, ell())
		s.Field = f
		o, e := origami.FromSurface(s)
		wantOrigami(t, "FromSurface over another field", o, e, ell(), api.OK)
		for _, edges := range s.Faces {
			for i, v := range edges {
				edges[i] = api.Vec{X: untidy(v.X, f.Poly), Y: untidy(v.Y, f.Poly)}
			}
		}
		o, e = origami.FromSurface(s)
		wantOrigami(t, "FromSurface of other forms", o, e, ell(), api.OK)
	}
	// 1 may be w, and 0 an empty number.
	w := api.Num{C: []api.Int{nil, {1}}}
	minus := api.Num{C: []api.Int{{0}, {-1}}, D: []int{0}}
	s := api.Surface{Field: api.Field{Poly: []int{-1, 1}, Lo: 1, Hi: 1, Den: 1}, Faces: [][]api.Vec{{{X: w}, {Y: w}, {X: minus}, {Y: minus}}}, Glue: [][]api.Slot{{{Edge: 2}, {Edge: 3}, {Edge: 0}, {Edge: 1}}}}
	o, e := origami.FromSurface(s)
	wantOrigami(t, "FromSurface with the edges w", o, e, torus(), api.OK)
}

// untidy returns a number with the same value that is not in normal form.
func untidy(x api.Num, poly []int) api.Num {
	y := api.Num{D: append(field.Mul(x.D, field.Of(-3)), 0)}
	for _, c := range x.C {
		y.C = append(y.C, append(field.Mul(c, field.Of(-3)), 100000000, -1)) // 0 in all
	}
	for len(y.C) <= len(poly) {
		y.C = append(y.C, nil)
	}
	// A multiple of the polynomial has the value 0.
	for i, c := range poly {
		y.C[i+1] = field.Add(y.C[i+1], field.Of(5*c))
	}
	return y
}

// oneFace returns a surface of one face with whole edges x, y, x, y, .., which is glued to itself.
func oneFace(glue []int, edges ...int) api.Surface {
	s := api.Surface{Field: field.Rational(), Faces: [][]api.Vec{nil}, Glue: [][]api.Slot{nil}}
	for p := range slices.Chunk(edges, 2) {
		s.Faces[0] = append(s.Faces[0], whole(p[0], p[1]))
	}
	for _, e := range glue {
		s.Glue[0] = append(s.Glue[0], api.Slot{Edge: e})
	}
	return s
}

// P6.8: surfaces that are not those of origamis.
func TestFromSurfaceErrors(t *testing.T) {
	opposite := []int{2, 3, 0, 1}
	for what, s := range map[string]api.Surface{
		"a wide square":                   oneFace(opposite, 2, 0, 0, 1, -2, 0, 0, -1),
		"a high square":                   oneFace(opposite, 1, 0, 0, 2, -1, 0, 0, -2),
		"a large square":                  oneFace(opposite, 2, 0, 0, 2, -2, 0, 0, -2),
		"a rhombus":                       oneFace(opposite, 1, 0, 1, 1, -1, 0, -1, -1),
		"a square turned by an eighth":    oneFace(opposite, 1, -1, 1, 1, -1, 1, -1, -1),
		"a square from its right edge":    oneFace(opposite, 0, 1, -1, 0, 0, -1, 1, 0),
		"a square from its upper edge":    oneFace(opposite, -1, 0, 0, -1, 1, 0, 0, 1),
		"a square from its left edge":     oneFace(opposite, 0, -1, 1, 0, 0, 1, -1, 0),
		"two squares in one face":         oneFace([]int{4, 3, 5, 1, 0, 2}, 1, 0, 1, 0, 0, 1, -1, 0, -1, 0, 0, -1),
		"a square with an edge in two":    oneFace([]int{3, 4, 5, 0, 1, 2}, 1, 0, 0, 1, 0, 1, -1, 0, 0, -1, 0, -1),
		"the L in one face":               oneFace([]int{5, 3, 7, 1, 6, 0, 4, 2}, 1, 0, 1, 0, 0, 1, -1, 0, 0, 1, -1, 0, 0, -1, 0, -1),
		"the torus with a side that is 2": oneFace([]int{2, 3, 0, 1}, 1, 0, 2, 1, -1, 0, -2, -1),
	} {
		want(t, what+" is a surface", surface.Check(s), api.OK)
		o, e := origami.FromSurface(s)
		wantOrigami(t, "FromSurface of "+what, o, e, api.Origami{}, api.ErrForm)
	}
	// One of the faces is no square: a surface of three squares whose last face is cut.
	s := mustSurface(t, ell())
	s, e := surface.Cut(s, api.Slot{Face: 2, Edge: 0}, api.Slot{Face: 2, Edge: 2})
	want(t, "Cut", e, api.OK)
	o, e := origami.FromSurface(s)
	wantOrigami(t, "FromSurface of a cut one", o, e, api.Origami{}, api.ErrForm)
	// The errors of surface.Check come first, then that of too many faces.
	long := grid(61, 0, 1)
	s = surfaceByHand(long)
	want(t, "it is a surface", surface.Check(s), api.OK)
	o, e = origami.FromSurface(s)
	wantOrigami(t, "FromSurface of 61 squares", o, e, api.Origami{}, api.ErrLarge)
	wide, _ := surface.Apply(s, api.Mat{A: field.Whole(2), D: field.Whole(1)})
	o, e = origami.FromSurface(wide)
	wantOrigami(t, "FromSurface of 61 wide squares", o, e, api.Origami{}, api.ErrLarge)
	s.Glue[60][1].Face = 5
	o, e = origami.FromSurface(s)
	wantOrigami(t, "FromSurface of 61 squares that are not glued well", o, e, api.Origami{}, api.ErrGlue)
	r := rand.New(rand.NewSource(24))
	for range 200 {
		s := mustSurface(t, ell())
		f, k := r.Intn(3), r.Intn(4)
		switch r.Intn(3) {
		case 0:
			s.Glue[f][k] = api.Slot{Face: r.Intn(5) - 1, Edge: r.Intn(6) - 1}
		case 1:
			s.Faces[f][k] = whole(r.Intn(3)-1, r.Intn(3)-1)
		default:
			s.Field.Den = r.Intn(2)
		}
		right := surface.Check(s)
		o, e := origami.FromSurface(s)
		if right == api.OK {
			wantOrigami(t, "FromSurface", o, e, ell(), api.OK)
			continue
		}
		wantOrigami(t, "FromSurface of no surface", o, e, api.Origami{}, right)
	}
	o, e = origami.FromSurface(api.Surface{})
	wantOrigami(t, "FromSurface of nothing", o, e, api.Origami{}, surface.Check(api.Surface{}))
	o, e = origami.FromSurface(api.Surface{Field: field.Rational()})
	wantOrigami(t, "FromSurface without faces", o, e, api.Origami{}, api.ErrShape)
}
