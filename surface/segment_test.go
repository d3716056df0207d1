package surface_test

import (
	"math/rand"
	"slices"
	"testing"

	"flatland/api"
	"flatland/field"
	"flatland/surface"
)

// P3.8: example 5.
func TestSegmentsExample(t *testing.T) {
	l, e := surface.Segments(cutTorus(), field.Whole(2))
	wantSame(t, "Segments of the cut torus", sameSegments, l, e, []api.Segment{
		{From: slot(0, 0), To: slot(1, 0), Vector: vec(-1, 0)},
		{From: slot(0, 1), To: slot(1, 1), Vector: vec(0, -1)},
		{From: slot(0, 1), To: slot(1, 1), Vector: vec(1, -1)},
		{From: slot(0, 2), To: slot(1, 2), Vector: vec(1, 1)},
		{From: slot(1, 0), To: slot(0, 0), Vector: vec(1, 0)},
		{From: slot(1, 1), To: slot(0, 1), Vector: vec(0, 1)},
		{From: slot(1, 1), To: slot(0, 1), Vector: vec(-1, 1)},
		{From: slot(1, 2), To: slot(0, 2), Vector: vec(-1, -1)},
	}, api.OK)
	l, e = surface.Segments(cutTorus(), ratio(199, 100))
	want(t, "Segments up to less than 2", e, api.OK)
	want(t, "their number", len(l), 4)
}

// segments returns the segments of a triangulated surface whose vectors are whole numbers, each one at most n: each vector in the sector of each corner is tried.
func segments(s api.Surface, bound, n int) []api.Segment {
	var list []api.Segment
	for _, at := range slots(s) {
		low, high := pointOf(edge(s, at)), pointOf(edge(s, behind(s, at, -1))).times(whole(-1))
		var own []api.Segment
		for x := -n; x <= n; x++ {
			for y := -n; y <= n; y++ {
				v := pointOf(vec(x, y))
				if x*x+y*y > bound || low.cross(v).Sign() < 0 || v.cross(high).Sign() <= 0 {
					continue
				}
				if to, ok := arrive(s, at, v); ok {
					own = append(own, api.Segment{From: at, To: to, Vector: vec(x, y)})
				}
			}
		}
		slices.SortFunc(own, func(a, b api.Segment) int { return pointOf(b.Vector).cross(pointOf(a.Vector)).Sign() })
		list = append(list, own...)
	}
	return list
}

// P3.8: segments of random surfaces, compared with all vectors.
func TestSegmentsRandom(t *testing.T) {
	r := rand.New(rand.NewSource(18))
	sum, most := 0, 0
	for range 60 {
		s := triangulated(t, r, 1+r.Intn(5))
		bound := r.Intn(60)
		list := segments(s, bound, 7)
		sum += len(list)
		most = max(most, len(list))
		e := api.OK
		if len(list) > api.MaxSegments {
			list, e = nil, api.ErrLarge
		}
		l, f := surface.Segments(untidySurface(r, s), untidy(r, field.Whole(bound), s.Field.Poly))
		wantSame(t, "Segments", sameSegments, l, f, list, e)
	}
	if sum < 1000 || most < 200 {
		t.Errorf("%d segments, at most %d", sum, most)
	}
}

// P3.8, P3.11: the negative of a segment is a segment; no two of one corner have the same direction.
func TestSegmentsBack(t *testing.T) {
	_, eight := octagon(t)
	_, five := pentagons(t)
	for _, s := range []api.Surface{eight, five} {
		r := open(t, s.Field, api.OK)
		s, _ = surface.Triangulate(s)
		bound := 14
		l, e := surface.Segments(s, field.Whole(bound))
		want(t, "Segments", e, api.OK)
		want(t, "there are segments", len(l) >= 20, true)
		for i, x := range l {
			back := api.Segment{From: x.To, To: x.From, Vector: r.Times(field.Whole(-1), x.Vector)}
			want(t, "the negative of a segment", slices.ContainsFunc(l, func(y api.Segment) bool { return sameSegment(back, y) }), true)
			long := r.Add(r.Mul(x.Vector.X, x.Vector.X), r.Mul(x.Vector.Y, x.Vector.Y))
			want(t, "the length", r.Cmp(long, field.Whole(bound)) <= 0, true)
			if i > 0 && l[i-1].From == x.From {
				want(t, "counterclockwise", r.Sign(r.Cross(l[i-1].Vector, x.Vector)), 1)
			} else if i > 0 {
				want(t, "the order of the corners", less(l[i-1].From, x.From), -1)
			}
		}
		// A flip does not change the vectors.
		for _, at := range slots(s) {
			y, e := surface.Flip(s, at)
			if e != api.OK {
				continue
			}
			m, e := surface.Segments(y, field.Whole(bound))
			want(t, "Segments after a flip", e, api.OK)
			wantList(t, "the vectors after a flip", vectors(r, m), e, vectors(r, l), api.OK)
		}
	}
}

// vectors returns the texts of the vectors of segments, sorted.
func vectors(r *field.Real, l []api.Segment) []string {
	var texts []string
	for _, x := range l {
		texts = append(texts, r.Format(x.Vector.X)+" "+r.Format(x.Vector.Y))
	}
	slices.Sort(texts)
	return texts
}

// P3.8: the shortest segments of the octagon with sides of length 2 are its four sides.
func TestSegmentsOctagon(t *testing.T) {
	_, s := octagon(t)
	s, _ = surface.Triangulate(s)
	l, e := surface.Segments(s, field.Whole(4))
	want(t, "Segments", e, api.OK)
	want(t, "the sides", len(l), 8)
	l, e = surface.Segments(s, ratio(39, 10))
	wantSame(t, "Segments that are shorter than the sides", sameSegments, l, e, nil, api.OK)
	// The next ones are the short diagonals, of the squared length 8 + 4 w.
	next := api.Num{C: []api.Int{{8}, {4}}}
	l, e = surface.Segments(s, next)
	want(t, "Segments", e, api.OK)
	want(t, "the sides and the short diagonals", len(l), 24)
}

// P3.8: errors and bounds.
func TestSegmentsErrors(t *testing.T) {
	_, eight := octagon(t)
	for _, c := range []struct {
		what   string
		s      api.Surface
		square api.Num
		e      api.Errno
	}{
		{"no surface", api.Surface{}, field.Whole(1), api.ErrShape},
		{"a wrong surface", changedTorus(func(s *api.Surface) { s.Glue[0][0] = slot(0, 9) }), field.Whole(1), api.ErrMissing},
		{"a square", torus(), field.Whole(1), api.ErrShape},
		{"an octagon and a negative bound", eight, field.Whole(-1), api.ErrShape},
		{"the bound 0", cutTorus(), field.Whole(0), api.OK},
		{"a negative bound", cutTorus(), field.Whole(-7), api.OK},
		{"no bound", cutTorus(), api.Num{}, api.OK},
		{"a large bound", cutTorus(), field.Whole(1000000), api.ErrLarge},
		{"a very large bound", cutTorus(), api.Num{C: []api.Int{append(make([]int, 30), 1)}}, api.ErrLarge},
	} {
		l, e := surface.Segments(c.s, c.square)
		wantSame(t, "Segments with "+c.what, sameSegments, l, e, nil, c.e)
	}
	// Each of n squares has four segments of length 1.
	for _, n := range []int{125, 126} {
		right, up := make([]int, n), make([]int, n)
		for i := range right {
			right[i], up[i] = (i+1)%n, i
		}
		s, e := surface.Triangulate(squares(right, up))
		want(t, "Triangulate", e, api.OK)
		l, e := surface.Segments(s, field.Whole(1))
		if n == 125 {
			want(t, "Segments of 125 squares", e, api.OK)
			want(t, "their number", len(l), 500)
		} else {
			wantSame(t, "Segments of 126 squares", sameSegments, l, e, nil, api.ErrLarge)
		}
	}
}

// P3.8: two components, and long triangles that have to be crossed many times.
func TestSegmentsThin(t *testing.T) {
	s := both(cutTorus(), cutTorus())
	l, e := surface.Segments(s, field.Whole(2))
	want(t, "Segments of two components", e, api.OK)
	want(t, "their number", len(l), 16)
	s, _ = surface.Apply(cutTorus(), mat(1, 300, 0, 1))
	l, e = surface.Segments(s, field.Whole(2))
	want(t, "Segments of a thin torus", e, api.OK)
	r := open(t, field.Rational(), api.OK)
	m, _ := surface.Segments(cutTorus(), field.Whole(2))
	wantList(t, "the vectors of a thin torus", vectors(r, l), e, vectors(r, m), api.OK)
}
