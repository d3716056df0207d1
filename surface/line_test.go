package surface_test

import (
	"maps"
	"math"
	"math/rand"
	"slices"
	"testing"

	"flatland/api"
	"flatland/field"
	"flatland/surface"
)

// P3.7: example 2.
func TestNextExample(t *testing.T) {
	c, e := surface.Next(torus(), crossing(slot(0, 0), 1, 2, 1, 1))
	wantSame(t, "Next", sameCrossing, c, e, crossing(slot(0, 3), 1, 2, 1, 1), api.OK)
	c, e = surface.Next(torus(), crossing(slot(0, 0), 1, 2, 1, 2))
	wantSame(t, "Next", sameCrossing, c, e, api.Crossing{}, api.ErrCorner)
	l, e := surface.Line(torus(), crossing(slot(0, 0), 1, 2, 1, 1), 3)
	wantSame(t, "Line", sameCrossings, l, e, []api.Crossing{crossing(slot(0, 3), 1, 2, 1, 1), crossing(slot(0, 0), 1, 2, 1, 1), crossing(slot(0, 3), 1, 2, 1, 1)}, api.OK)
}

// P3.7: lines that meet corners in the L.
func TestCorners(t *testing.T) {
	for _, c := range []struct {
		what string
		c    api.Crossing
		next api.Crossing
		e    api.Errno
	}{
		{"straight up", crossing(slot(0, 0), 1, 2, 0, 1), crossing(slot(0, 0), 1, 2, 0, 1), api.OK},
		{"up to the lower part", crossing(slot(0, 1), 1, 2, 0, 1), crossing(slot(0, 1), 1, 2, 0, 1), api.OK},
		{"to a straight corner", crossing(slot(0, 4), 1, 2, -2, -1), api.Crossing{}, api.ErrCorner},
		{"to a corner", crossing(slot(0, 0), 1, 2, -1, 4), api.Crossing{}, api.ErrCorner},
		{"to the reflex corner", crossing(slot(0, 0), 1, 2, 1, 2), api.Crossing{}, api.ErrCorner},
		{"past the reflex corner", crossing(slot(0, 0), 1, 2, 2, 5), crossing(slot(0, 6), 3, 4, 2, 5), api.OK},
		{"below the reflex corner", crossing(slot(0, 0), 1, 2, 3, 5), crossing(slot(0, 1), 1, 10, 3, 5), api.OK},
		{"touching the reflex corner", crossing(slot(0, 2), 1, 2, -2, 1), api.Crossing{}, api.ErrCorner},
		{"to the reflex corner from far away", crossing(slot(0, 0), 1, 1000, 999, 1000), api.Crossing{}, api.ErrCorner},
		{"level below the edge", crossing(slot(0, 7), 1, 2, 1, 0), crossing(slot(0, 7), 1, 2, 1, 0), api.OK},
		{"level above the edge", crossing(slot(0, 6), 1, 2, 1, 0), crossing(slot(0, 6), 1, 2, 1, 0), api.OK},
	} {
		n, e := surface.Next(ell(), c.c)
		wantSame(t, "Next "+c.what, sameCrossing, n, e, c.next, c.e)
	}
	// A line that goes along an edge behind a corner: from the left to the notch of a face.
	s := alone(face(4, 0, 0, 2, -1, -1, -2, 0, -1, 1, 0, -2))
	want(t, "Check of a notch", surface.Check(s), api.OK)
	n, e := surface.Next(s, crossing(slot(0, 5), 1, 2, 1, 0))
	wantSame(t, "Next along the notch", sameCrossing, n, e, api.Crossing{}, api.ErrCorner)
	n, e = surface.Next(s, crossing(slot(0, 1), 1, 2, -1, 0))
	wantSame(t, "Next back along the notch", sameCrossing, n, e, api.Crossing{}, api.ErrCorner)
}

// P3.7: the errors of crossings, in their order.
func TestNextErrors(t *testing.T) {
	for _, c := range []struct {
		what string
		s    api.Surface
		c    api.Crossing
		e    api.Errno
	}{
		{"no surface", api.Surface{}, crossing(slot(9, 9), 2, 1, 0, -1), api.ErrShape},
		{"no slot", torus(), crossing(slot(0, 4), 2, 1, 0, -1), api.ErrMissing},
		{"T 0", torus(), crossing(slot(0, 0), 0, 1, 0, -1), api.ErrRange},
		{"T 1", torus(), crossing(slot(0, 0), 1, 1, 0, 1), api.ErrRange},
		{"T above 1", torus(), crossing(slot(0, 0), 3, 2, 0, 1), api.ErrRange},
		{"T below 0", torus(), crossing(slot(0, 0), -1, 2, 0, 1), api.ErrRange},
		{"a direction to the outside", torus(), crossing(slot(0, 0), 1, 2, 0, -1), api.ErrForm},
		{"a direction along the edge", torus(), crossing(slot(0, 0), 1, 2, 1, 0), api.ErrForm},
		{"a direction back along the edge", torus(), crossing(slot(0, 0), 1, 2, -1, 0), api.ErrForm},
		{"no direction", torus(), crossing(slot(0, 0), 1, 2, 0, 0), api.ErrForm},
		{"a corner", torus(), crossing(slot(0, 0), 1, 2, 1, 2), api.ErrCorner},
	} {
		n, e := surface.Next(c.s, c.c)
		wantSame(t, "Next with "+c.what, sameCrossing, n, e, api.Crossing{}, c.e)
		l, e := surface.Line(c.s, c.c, 1)
		wantSame(t, "Line with "+c.what, sameCrossings, l, e, nil, c.e)
		for _, n := range []int{-1, 201, math.MinInt, math.MaxInt} {
			f := c.e
			if f == api.ErrCorner {
				f = api.ErrRange
			}
			l, e = surface.Line(c.s, c.c, n)
			wantSame(t, "Line beyond the bound with "+c.what, sameCrossings, l, e, nil, f)
		}
		if c.e == api.ErrCorner {
			l, e = surface.Line(c.s, c.c, 0)
			wantSame(t, "Line of no crossings", sameCrossings, l, e, nil, api.OK)
		}
	}
	for _, at := range badSlots() {
		n, e := surface.Next(torus(), crossing(at, 1, 2, 0, 1))
		wantSame(t, "Next of no slot", sameCrossing, n, e, api.Crossing{}, api.ErrMissing)
	}
	l, e := surface.Line(torus(), crossing(slot(0, 0), 1, 3, 1, 1), 200)
	want(t, "Line of 200 crossings", e, api.OK)
	want(t, "its length", len(l), 200)
}

// P3.7: lines on random surfaces, compared with the definition.
func TestLineRandom(t *testing.T) {
	r := rand.New(rand.NewSource(17))
	corners, steps := 0, 0
	for range 150 {
		s := random(r, 1+r.Intn(7))
		all := slots(s)
		d := 2 + r.Intn(2)
		c := crossing(all[r.Intn(len(all))], 1+r.Intn(d-1), d, r.Intn(13)-6, r.Intn(13)-6)
		if pointOf(edge(s, c.At)).cross(pointOf(c.Dir)).Sign() <= 0 {
			continue
		}
		var list []api.Crossing
		e := api.OK
		for at := c; len(list) < 12; list = append(list, at) {
			if at, e = next(s, at); e != api.OK {
				corners++
				break
			}
			steps++
		}
		l, f := surface.Line(untidySurface(r, s), untidyCrossing(r, c, s.Field.Poly), 12)
		wantSame(t, "Line", sameCrossings, l, f, list, e)
		n, f := surface.Next(untidySurface(r, s), untidyCrossing(r, c, s.Field.Poly))
		if len(list) > 0 {
			wantSame(t, "Next", sameCrossing, n, f, list[0], api.OK)
		} else {
			wantSame(t, "Next", sameCrossing, n, f, api.Crossing{}, e)
		}
	}
	if corners < 20 || steps < 300 {
		t.Errorf("%d steps and %d corners", steps, corners)
	}
}

// P3.7: lines in faces with many reflex corners, from any of their edges on, compared with the definition.
func TestNextFaces(t *testing.T) {
	r := rand.New(rand.NewSource(24))
	faces := hardFaces()
	for _, what := range slices.Sorted(maps.Keys(faces)) {
		edges := faces[what]
		for k := range edges {
			s := alone(slices.Concat(edges[k:], edges[:k]))
			for range 60 {
				d := 2 + r.Intn(9)
				c := crossing(slot(r.Intn(2), r.Intn(len(edges))), 1+r.Intn(d-1), d, r.Intn(17)-8, r.Intn(17)-8)
				if pointOf(edge(s, c.At)).cross(pointOf(c.Dir)).Sign() <= 0 {
					continue
				}
				n, e := surface.Next(s, c)
				m, f := next(s, c)
				wantSame(t, "Next in "+what, sameCrossing, n, e, m, f)
			}
		}
	}
}

// P3.7: a line over another field, and the way back.
func TestLineBack(t *testing.T) {
	_, eight := octagon(t)
	_, five := pentagons(t)
	for i, s := range []api.Surface{eight, five} {
		r := open(t, s.Field, api.OK)
		c := crossing(slot(0, 1), 2, 7, -5, 1)
		if i == 1 {
			c.Dir = vec(1, -5)
		}
		l, e := surface.Line(s, c, 40)
		if e != api.OK || len(l) != 40 {
			t.Fatalf("Line: %d crossings, %d", len(l), e)
		}
		last := l[39]
		// From the other side of the same edge the line leads back.
		back := api.Crossing{At: partner(s, last.At), T: r.Sub(field.Whole(1), last.T), Dir: r.Times(field.Whole(-1), last.Dir)}
		m, e := surface.Line(s, back, 40)
		want(t, "Line back", e, api.OK)
		for i, x := range m {
			y := c
			if i < 39 {
				y = l[38-i]
			}
			wantSame(t, "a crossing of the way back", sameCrossing, x, 0, api.Crossing{At: partner(s, y.At), T: r.Sub(field.Whole(1), y.T), Dir: back.Dir}, 0)
		}
	}
}
