package cylinder_test

import (
	"math"
	"math/big"
	"math/rand"
	"slices"
	"testing"

	"flatland/api"
	"flatland/cylinder"
	"flatland/field"
	"flatland/surface"
)

// at returns a position.
func at(i, a, b, c, d int) api.Position {
	return api.Position{Cylinder: i, U: ratio(a, b), V: ratio(c, d)}
}

// P4.5: example 5, and places of the L and of the steps.
func TestLocateExamples(t *testing.T) {
	for _, c := range []struct {
		what  string
		s     api.Surface
		d     api.Vec
		bound int
		p     api.Spot
		x     api.Position
		e     api.Errno
	}{
		{"the torus", torus(), vec(1, 0), 5, spot(0, 1, 4, 1, 3), at(0, 1, 4, 1, 3), api.OK},
		{"the torus, twice the direction", torus(), vec(2, 0), 5, spot(0, 1, 4, 1, 3), at(0, 1, 8, 2, 3), api.OK},
		{"the torus, the other way", torus(), vec(-1, 0), 5, spot(0, 1, 4, 1, 3), at(0, 3, 4, 2, 3), api.OK},
		{"the torus, up", torus(), vec(0, 1), 5, spot(0, 1, 4, 1, 3), at(0, 1, 3, 3, 4), api.OK},
		{"above the diagonal of the torus", torus(), vec(1, 1), 5, spot(0, 1, 4, 1, 2), at(0, 3, 8, 1, 4), api.OK},
		{"below the diagonal of the torus", torus(), vec(1, 1), 5, spot(0, 3, 4, 1, 4), at(0, 0, 1, 1, 2), api.OK},
		{"on the diagonal of the torus", torus(), vec(1, 1), 5, spot(0, 1, 3, 1, 3), at(0, 1, 3, 0, 1), api.OK},
		{"the L", ell(), vec(1, 0), 5, spot(1, 1, 4, 1, 3), at(0, 5, 4, 1, 3), api.OK},
		{"the upper part of the L", ell(), vec(1, 0), 5, spot(2, 1, 4, 1, 3), at(1, 1, 4, 1, 3), api.OK},
		{"the L, nothing closed", ell(), vec(1, 0), 0, spot(2, 1, 4, 1, 3), api.Position{}, api.ErrOpen},
		{"the steps", steps(), vec(1, 0), 2, spot(1, 1, 4, 1, 3), at(1, 1, 4, 1, 3), api.OK},
		{"the lower steps", steps(), vec(1, 0), 1, spot(0, 3, 2, 2, 3), at(0, 3, 2, 2, 3), api.OK},
		{"above the cylinder of the steps", steps(), vec(1, 0), 1, spot(1, 1, 4, 1, 3), api.Position{}, api.ErrOpen},
	} {
		x, e := cylinder.Locate(c.s, c.d, field.Whole(c.bound), c.p)
		wantSame(t, "Locate in "+c.what, samePosition, x, e, c.x, c.e)
	}
	// Straight above a vertex that a face has within: the steps, joined.
	s, e := surface.Join(steps(), slot(0, 3))
	want(t, "Join", e, api.OK)
	for _, c := range []struct {
		p api.Spot
		x api.Position
	}{
		{spot(0, 1, 1, -1, 2), at(1, 1, 1, 1, 2)},
		{spot(0, 1, 2, -1, 4), at(1, 1, 2, 3, 4)},
		{spot(0, 1, 1, 1, 2), at(0, 1, 1, 1, 2)},
		{spot(0, 1, 1, 0, 1), at(0, 1, 1, 0, 1)},
		{spot(0, 1, 9, 0, 1), at(0, 1, 9, 0, 1)},
	} {
		x, e := cylinder.Locate(s, vec(1, 0), field.Whole(2), c.p)
		wantSame(t, "Locate in the joined steps", samePosition, x, e, c.x, api.OK)
	}
}

// P4.5: the errors, in their order.
func TestLocateErrors(t *testing.T) {
	for _, c := range []struct {
		what  string
		s     api.Surface
		d     api.Vec
		bound int
		p     api.Spot
		e     api.Errno
	}{
		{"no surface", api.Surface{}, vec(0, 0), -1, spot(9, 9, 1, 9, 1), api.ErrShape},
		{"no direction", torus(), vec(0, 0), -1, spot(9, 9, 1, 9, 1), api.ErrZero},
		{"a negative bound", torus(), vec(1, 0), -1, spot(9, 9, 1, 9, 1), api.ErrRange},
		{"too many edges and no face", torus(), vec(1, 5000), 5, spot(9, 9, 1, 9, 1), api.ErrLarge},
		{"no face", torus(), vec(1, 0), 5, spot(1, 9, 1, 9, 1), api.ErrMissing},
		{"a negative face", torus(), vec(1, 0), 5, spot(-1, 9, 1, 9, 1), api.ErrMissing},
		{"no face at all", torus(), vec(1, 0), 5, spot(math.MaxInt, 9, 1, 9, 1), api.ErrMissing},
		{"the least number", torus(), vec(1, 0), 5, spot(math.MinInt, 9, 1, 9, 1), api.ErrMissing},
		{"a place outside", torus(), vec(1, 0), 5, spot(0, 9, 1, 9, 1), api.ErrRange},
		{"a place to the left", torus(), vec(1, 0), 5, spot(0, -1, 2, 1, 2), api.ErrRange},
		{"a place to the right", torus(), vec(1, 0), 5, spot(0, 3, 2, 1, 2), api.ErrRange},
		{"a place above", torus(), vec(1, 0), 5, spot(0, 1, 2, 3, 2), api.ErrRange},
		{"a corner", torus(), vec(1, 0), 5, spot(0, 0, 1, 0, 1), api.ErrRange},
		{"another corner", torus(), vec(1, 0), 5, spot(0, 1, 1, 1, 1), api.ErrRange},
		{"the lower edge", torus(), vec(1, 0), 5, spot(0, 1, 2, 0, 1), api.ErrRange},
		{"the upper edge", torus(), vec(1, 0), 5, spot(0, 1, 2, 1, 1), api.ErrRange},
		{"the left edge", torus(), vec(1, 0), 5, spot(0, 0, 1, 1, 2), api.ErrRange},
		{"the right edge", torus(), vec(1, 0), 5, spot(0, 1, 1, 1, 2), api.ErrRange},
		{"a straight corner", steps(), vec(1, 0), 5, spot(0, 1, 1, 0, 1), api.ErrRange},
		{"a straight corner above", steps(), vec(1, 0), 5, spot(1, 1, 1, 1, 1), api.ErrRange},
		{"a place outside, nothing closed", torus(), vec(1, 0), 0, spot(0, 1, 2, 1, 1), api.ErrRange},
		{"a place inside, nothing closed", torus(), vec(1, 0), 0, spot(0, 1, 2, 1, 2), api.ErrOpen},
	} {
		x, e := cylinder.Locate(c.s, c.d, field.Whole(c.bound), c.p)
		wantSame(t, "Locate with "+c.what, samePosition, x, e, api.Position{}, c.e)
	}
}

// P4.5: the line straight down may cross 2000 edges, but no more.
func TestLocateLarge(t *testing.T) {
	// Below the place (x, y) of the torus with the sides (1, 0) and (2001, 1) are the edges at the heights (x - 1)/2001, (x - 2)/2001, ..
	s := parallelogram(1, 0, 2001, 1)
	for _, c := range []struct {
		what string
		p    api.Spot
		x    api.Position
		e    api.Errno
	}{
		{"no edge", spot(0, 1, 2, 1, 8004), at(0, 1, 2, 1, 8004), api.OK},
		{"one edge", spot(0, 3, 2, 1, 2001), at(0, 1, 2, 1, 2001), api.OK},
		{"2000 edges", spot(0, 4001, 2, 2000, 2001), at(0, 1, 2, 2000, 2001), api.OK},
		{"2000 edges and a vertex", spot(0, 2001, 1, 4001, 4002), at(0, 0, 1, 4001, 4002), api.OK},
		{"2001 edges", spot(0, 4003, 2, 8003, 8004), api.Position{}, api.ErrLarge},
	} {
		x, e := cylinder.Locate(s, vec(1, 0), field.Whole(1), c.p)
		wantSame(t, "Locate with "+c.what, samePosition, x, e, c.x, c.e)
	}
	// Without a cylinder no edge is crossed.
	x, e := cylinder.Locate(s, vec(1, 0), ratio(1, 2), spot(0, 4003, 2, 8003, 8004))
	wantSame(t, "Locate without a cylinder", samePosition, x, e, api.Position{}, api.ErrOpen)
	// A line that meets nothing ends when it has come down by more than the greatest height; here it crosses 888 edges for each 1.
	for h, e := range []api.Errno{api.ErrOpen, api.ErrOpen, api.ErrLarge} {
		z := both(parallelogram(1, 0, 0, 1+h), parallelogram(5, 0, 40000, 9))
		x, f := cylinder.Locate(z, vec(1, 0), field.Whole(1), spot(1, 20001, 1, 9, 2))
		wantSame(t, "Locate in the rest", samePosition, x, f, api.Position{}, e)
	}
	// Here it crosses an edge every 2/4001, at first after 1/4001: the edge number 2001 just at the greatest height, 1, or a bit deeper.
	z := both(parallelogram(1, 0, 0, 1), parallelogram(5, 0, 20005, 2))
	x, e = cylinder.Locate(z, vec(1, 0), field.Whole(1), spot(1, 60025, 4, 3, 2))
	wantSame(t, "Locate down to the greatest height", samePosition, x, e, api.Position{}, api.ErrLarge)
	x, e = cylinder.Locate(z, vec(1, 0), field.Whole(1), spot(1, 60024, 4, 3, 2))
	wantSame(t, "Locate below the greatest height", samePosition, x, e, api.Position{}, api.ErrOpen)
}

// place returns a random place near a face, often straight above a corner.
func place(r *rand.Rand, w *world) api.Spot {
	f := r.Intn(len(w.rings))
	if r.Intn(2) == 0 {
		at := w.rings[f][r.Intn(len(w.rings[f]))].plus(w.up.times(quo(big.NewRat(1+int64(r.Intn(6)), 3), w.up.dot(w.up))))
		return api.Spot{Face: f, At: api.Vec{X: numOf(at.x), Y: numOf(at.y)}}
	}
	a, b := w.rings[f][r.Intn(len(w.rings[f]))], w.rings[f][r.Intn(len(w.rings[f]))]
	d := int64(2 + r.Intn(3))
	mix := func(x, y *big.Rat) *big.Rat {
		return add(add(x, mul(sub(y, x), big.NewRat(1, d))), big.NewRat(int64(r.Intn(5)-2), 2*d))
	}
	return api.Spot{Face: f, At: api.Vec{X: numOf(mix(a.x, b.x)), Y: numOf(mix(a.y, b.y))}}
}

// P4.5: random places, compared with the definition.
func TestLocateRandom(t *testing.T) {
	r := rand.New(rand.NewSource(9))
	found, open, outside, bottom, above := 0, 0, 0, 0, 0
	for range 120 {
		s := random(r, 1+r.Intn(7))
		d := direction(r, s)
		bound := ratio(r.Intn(24), 1+r.Intn(5))
		w := worldOf(s, d)
		x := w.decompose(rat(bound))
		poly := s.Field.Poly
		for range 8 {
			p := place(r, w)
			q := api.Spot{Face: p.Face, At: untidyVec(r, p.At, poly)}
			y, e := cylinder.Locate(untidySurface(r, s), untidyVec(r, d, poly), untidy(r, bound, poly), q)
			if !w.inside(p) {
				wantSame(t, "Locate outside", samePosition, y, e, api.Position{}, api.ErrRange)
				outside++
				continue
			}
			z, f := w.locate(x, p)
			wantSame(t, "Locate", samePosition, y, e, z, f)
			switch {
			case f == api.ErrOpen:
				open++
				continue
			case rat(z.V).Sign() == 0:
				bottom++
			case rat(z.U).Sign() == 0:
				above++
			}
			found++
			c := x.Cylinders[z.Cylinder]
			want(t, "U and V are in their bounds", rat(z.U).Sign() >= 0 && rat(z.U).Cmp(rat(c.T)) < 0 && rat(z.V).Sign() >= 0 && rat(z.V).Cmp(rat(c.Height)) < 0, true)
		}
	}
	if found < 200 || open < 50 || outside < 100 || bottom < 10 || above < 20 {
		t.Errorf("%d found (%d on rays, %d above beginnings), %d open, %d outside", found, bottom, above, open, outside)
	}
}

// P4.5: in a surface that is glued from its cylinders a place has the coordinates that it has in its face.
func TestLocateAssembled(t *testing.T) {
	r := rand.New(rand.NewSource(10))
	_, eight := octagon(t)
	_, five := pentagons(t)
	_, golden := skewed(t)
	list := []api.Surface{torus(), ell(), steps(), eight, five, golden}
	for range 10 {
		list = append(list, random(r, 1+r.Intn(5)))
	}
	count := 0
	for _, s := range list {
		real := open(t, s.Field, api.OK)
		d := s.Faces[0][0]
		x, e := cylinder.Decompose(s, d, field.Whole(50))
		if e != api.OK || real.Sign(x.Rest) != 0 {
			continue
		}
		z, ok := assembled(real, s, d, x)
		if !ok {
			continue
		}
		square := real.Add(real.Mul(d.X, d.X), real.Mul(d.Y, d.Y))
		for i, c := range x.Cylinders {
			for range 6 {
				// From the corner: so many parts of the lower side, and so many of the edge on the left.
				a, b := ratio(1+r.Intn(5), 6), ratio(1+r.Intn(6), 7)
				left := real.Times(field.Whole(-1), z.Faces[i][len(z.Faces[i])-1])
				at := real.Sum(real.Times(real.Mul(a, c.T), d), real.Times(b, left))
				u, _ := real.Quo(real.Add(real.Mul(at.X, d.X), real.Mul(at.Y, d.Y)), square)
				for real.Cmp(u, c.T) >= 0 {
					u = real.Sub(u, c.T)
				}
				y, e := cylinder.Locate(z, d, c.T, api.Spot{Face: i, At: at})
				wantSame(t, "Locate", samePosition, y, e, api.Position{Cylinder: y.Cylinder, U: u, V: real.Mul(b, c.Height)}, api.OK)
				y, e = cylinder.Locate(z, d, field.Whole(50), api.Spot{Face: i, At: at})
				wantSame(t, "Locate", samePosition, y, e, api.Position{Cylinder: i, U: u, V: real.Mul(b, c.Height)}, api.OK)
				count++
			}
		}
	}
	if count < 60 {
		t.Errorf("%d places", count)
	}
}

// P4.5, P4.9: a turned and stretched surface has the same cylinders, heights times the square of what lengths are times; different places have different positions.
func TestLocateTurned(t *testing.T) {
	_, eight := octagon(t)
	_, five := pentagons(t)
	_, golden := skewed(t)
	for _, s := range []api.Surface{eight, five, golden} {
		real := open(t, s.Field, api.OK)
		w := api.Num{C: []api.Int{nil, {1}}}
		m := api.Mat{A: w, B: field.Whole(-2), C: field.Whole(2), D: w}
		times := real.Add(real.Mul(w, w), field.Whole(4))
		turned, e := surface.Apply(s, m)
		want(t, "Apply", e, api.OK)
		d := s.Faces[0][1]
		x, e := cylinder.Decompose(s, d, field.Whole(50))
		want(t, "Decompose", e, api.OK)
		y, e := cylinder.Decompose(turned, real.Apply(m, d), field.Whole(50))
		for i := range x.Cylinders {
			x.Cylinders[i].Height = real.Mul(times, x.Cylinders[i].Height)
		}
		x.Rest = real.Mul(times, x.Rest)
		wantSame(t, "Decompose, turned", sameDecomposition, y, e, x, api.OK)
		var seen []api.Position
		for k := range 30 {
			// Within the triangle of the first three corners.
			p := api.Spot{Face: k % len(s.Faces)}
			l := s.Faces[p.Face]
			p.At = real.Sum(real.Times(ratio(3+k%13, 16), l[0]), real.Times(ratio(1+k%20, 120), l[1]))
			a, e := cylinder.Locate(s, d, field.Whole(50), p)
			p.At = real.Apply(m, p.At)
			b, f := cylinder.Locate(turned, real.Apply(m, d), field.Whole(50), p)
			if e == api.OK {
				a.V = real.Mul(times, a.V)
				want(t, "a new position", slices.ContainsFunc(seen, func(x api.Position) bool { return samePosition(x, a) }), false)
				seen = append(seen, a)
			}
			wantSame(t, "Locate, turned", samePosition, b, f, a, e)
		}
		want(t, "places were found", len(seen) > 10, true)
	}
}
