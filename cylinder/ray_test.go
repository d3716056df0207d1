package cylinder_test

import (
	"math/rand"
	"slices"
	"testing"

	"flatland/api"
	"flatland/cylinder"
	"flatland/field"
	"flatland/surface"
)

// P4.1, P4.2, P4.3: examples 1 and 2.
func TestTorus(t *testing.T) {
	l, e := cylinder.Rays(torus(), vec(1, 0))
	wantList(t, "Rays", l, e, partners(0, 0), api.OK)
	c, e := cylinder.Next(torus(), slot(0, 0), vec(1, 0))
	wantList(t, "Next", partners(c.Face, c.Edge), e, partners(0, 0), api.OK)
	for _, d := range []api.Vec{vec(1, 0), vec(1, 1)} {
		ray := closed(0, 0, 1)
		x, e := cylinder.Trace(torus(), slot(0, 0), d, field.Whole(5))
		wantSame(t, "Trace", sameRay, x, e, ray, api.OK)
		m, e := cylinder.Traces(torus(), d, field.Whole(5))
		wantSame(t, "Traces", sameRays, m, e, []api.Ray{ray}, api.OK)
		want(t, "CheckTraces", cylinder.CheckTraces(torus(), d, m), api.OK)
		n, e := cylinder.Left(torus(), d, m)
		wantList(t, "Left", n, e, []int{0}, api.OK)
		n, e = cylinder.Right(torus(), d, m)
		wantList(t, "Right", n, e, []int{0}, api.OK)
	}
}

// P4.1, P4.3: the L, and directions in which its rays turn around its vertex.
func TestEll(t *testing.T) {
	l, e := cylinder.Rays(ell(), vec(1, 0))
	wantList(t, "Rays", l, e, partners(0, 0, 1, 0, 2, 0), api.OK)
	rays := []api.Ray{closed(0, 2, 1), closed(1, 1, 1), closed(2, 0, 1)}
	m, e := cylinder.Traces(ell(), vec(1, 0), field.Whole(1))
	wantSame(t, "Traces", sameRays, m, e, rays, api.OK)
	n, e := cylinder.Left(ell(), vec(1, 0), rays)
	wantList(t, "Left", n, e, []int{1, 0, 2}, api.OK)
	n, e = cylinder.Right(ell(), vec(1, 0), rays)
	wantList(t, "Right", n, e, []int{0, 2, 1}, api.OK)
	// Opposite: along the upper edges.
	l, e = cylinder.Rays(ell(), vec(-1, 0))
	wantList(t, "Rays back", l, e, partners(0, 2, 1, 2, 2, 2), api.OK)
	l, e = cylinder.Rays(ell(), vec(0, 3))
	wantList(t, "Rays up", l, e, partners(0, 1, 1, 1, 2, 1), api.OK)
}

// wantRays compares everything about rays with the definition.
func wantRays(t *testing.T, r *rand.Rand, s api.Surface, d api.Vec, bound api.Num) (open, reflex int) {
	t.Helper()
	w := worldOf(s, d)
	poly := s.Field.Poly
	x, y := untidySurface(r, s), untidyVec(r, d, poly)
	l, e := cylinder.Rays(x, y)
	wantList(t, "Rays", l, e, w.rays, api.OK)
	for _, c := range slots(s) {
		if !slices.Contains(w.rays, c) {
			_, e := cylinder.Next(x, c, y)
			want(t, "Next of a corner without a ray", e, api.ErrForm)
			_, e = cylinder.Trace(x, c, y, bound)
			want(t, "Trace of a corner without a ray", e, api.ErrForm)
		}
	}
	traces := w.traces(rat(bound))
	for i, c := range w.rays {
		next, e := cylinder.Next(x, c, y)
		around := w.around(c, w.d, w.d.negative())
		at := slices.IndexFunc(around, func(g glance) bool { return g.c == c && g.dir.points(w.d) })
		wantList(t, "Next", []api.Slot{next}, e, []api.Slot{around[(at+2)%len(around)].c}, api.OK)
		z, e := cylinder.Trace(x, c, y, untidy(r, bound, poly))
		wantSame(t, "Trace", sameRay, z, e, traces[i], api.OK)
		if z.Open {
			open++
		}
		if w.edge(c).cross(w.end(c)).Sign() < 0 {
			reflex++
		}
	}
	m, e := cylinder.Traces(x, y, untidy(r, bound, poly))
	wantSame(t, "Traces", sameRays, m, e, traces, api.OK)
	m = untidyRays(r, m, poly)
	want(t, "CheckTraces", cylinder.CheckTraces(x, y, m), api.OK)
	n, e := cylinder.Left(x, y, m)
	wantList(t, "Left", n, e, w.successors(traces, -1), api.OK)
	n, e = cylinder.Right(x, y, m)
	wantList(t, "Right", n, e, w.successors(traces, 1), api.OK)
	return open, reflex
}

// P4.1, P4.2, P4.3: random surfaces and directions, compared with the definitions; some bounds are the T of a ray.
func TestRaysRandom(t *testing.T) {
	r := rand.New(rand.NewSource(1))
	open, reflex := 0, 0
	for i := range 300 {
		s := random(r, 1+r.Intn(7))
		d := direction(r, s)
		bound := ratio(r.Intn(40), 1+r.Intn(7))
		if l, _ := cylinder.Traces(s, d, bound); i%2 == 0 && len(l) > 0 {
			if x := l[r.Intn(len(l))]; !x.Open {
				bound = x.T
			}
		}
		a, b := wantRays(t, r, s, d, bound)
		open, reflex = open+a, reflex+b
	}
	if open < 100 || reflex < 50 {
		t.Errorf("%d open rays, %d from reflex corners", open, reflex)
	}
}

// P4.1, P4.9: Next goes around the vertices, and as many rays begin at a vertex as its angle says; also over other fields.
func TestNextAround(t *testing.T) {
	r := rand.New(rand.NewSource(2))
	_, eight := octagon(t)
	_, five := pentagons(t)
	list := []api.Surface{torus(), ell(), steps(), eight, five}
	for range 20 {
		list = append(list, random(r, 1+r.Intn(6)))
	}
	for _, s := range list {
		for range 4 {
			d := direction(r, s)
			rays, e := cylinder.Rays(s, d)
			want(t, "Rays", e, api.OK)
			vertices, _ := surface.Vertices(s)
			angles, _ := surface.Angles(s)
			for i, v := range vertices {
				var own []api.Slot
				for _, c := range v {
					if slices.Contains(rays, c) {
						own = append(own, c)
					}
				}
				want(t, "the number of rays of a vertex", len(own), angles[i])
				for k, c := range own {
					next, e := cylinder.Next(s, c, d)
					wantList(t, "Next", []api.Slot{next}, e, []api.Slot{own[(k+1)%len(own)]}, api.OK)
				}
			}
		}
	}
}

// P4.2: T is the quotient of the whole vector by the direction, over another field; a ray with T equal to the bound is closed.
func TestTraceOctagon(t *testing.T) {
	r, s := octagon(t)
	// From the corner 0 in the direction of the short diagonal to the corner 2, and twice as far as half of it.
	d := parsed(t, r, "2,1", "0,1")
	x, e := cylinder.Trace(s, slot(0, 0), d, field.Whole(1))
	wantSame(t, "Trace", sameRay, x, e, api.Ray{From: slot(0, 0), To: slot(0, 2), T: field.Whole(1)}, api.OK)
	x, e = cylinder.Trace(s, slot(0, 0), r.Times(ratio(1, 2), d), field.Whole(2))
	wantSame(t, "Trace of the half", sameRay, x, e, api.Ray{From: slot(0, 0), To: slot(0, 2), T: field.Whole(2)}, api.OK)
	w := number(t, r, "0,1")
	x, e = cylinder.Trace(s, slot(0, 0), r.Times(w, d), ratio(7, 10))
	wantSame(t, "Trace of w times", sameRay, x, e, api.Ray{From: slot(0, 0), Open: true}, api.OK)
	x, e = cylinder.Trace(s, slot(0, 0), r.Times(w, d), ratio(71, 100))
	wantSame(t, "Trace of w times", sameRay, x, e, api.Ray{From: slot(0, 0), To: slot(0, 2), T: number(t, r, "0,1/2")}, api.OK)
	x, e = cylinder.Trace(s, slot(0, 0), r.Times(w, d), number(t, r, "0,1/2"))
	wantSame(t, "Trace up to its T", sameRay, x, e, api.Ray{From: slot(0, 0), To: slot(0, 2), T: number(t, r, "0,1/2")}, api.OK)
	// A direction in which no ray ends.
	s, d = endless(t)
	x, e = cylinder.Trace(s, slot(0, 0), d, field.Whole(200))
	wantSame(t, "Trace that does not end", sameRay, x, e, api.Ray{From: slot(0, 0), Open: true}, api.OK)
}

// P4.2: the bound 0 closes no ray, also along an edge.
func TestNoBound(t *testing.T) {
	for _, d := range []api.Vec{vec(1, 0), vec(1, 1), vec(-2, 3)} {
		for _, bound := range []api.Num{{}, field.Whole(0)} {
			l, e := cylinder.Traces(ell(), d, bound)
			want(t, "Traces", e, api.OK)
			for _, x := range l {
				wantSame(t, "an open ray", sameRay, x, e, api.Ray{From: x.From, Open: true}, api.OK)
			}
			n, e := cylinder.Left(ell(), d, l)
			wantList(t, "Left of open rays", n, e, []int{-1, -1, -1}, api.OK)
			n, e = cylinder.Right(ell(), d, l)
			wantList(t, "Right of open rays", n, e, []int{-1, -1, -1}, api.OK)
		}
	}
}

// P4.2: a ray may cross 2000 edges; one more is too much, unless it ends or has passed the bound.
func TestMaxCross(t *testing.T) {
	// In the direction (1, n) a ray crosses n - 1 edges, at the multiples of 1/n.
	for _, c := range []struct {
		what    string
		n       int
		bound   api.Num
		isOpen  bool
		isLarge bool
	}{
		{"2000 edges", 2001, field.Whole(1), false, false},
		{"2000 edges up to almost the end", 2001, ratio(9999, 10000), true, false},
		{"2001 edges", 2002, field.Whole(1), false, true},
		{"2001 edges, the bound at the last one", 2002, ratio(2001, 2002), false, true},
		{"2001 edges, the bound before the last one", 2002, ratio(20009, 20020), true, false},
		{"many edges", 100000000, field.Whole(1), false, true},
		{"many edges and a small bound", 100000000, ratio(1, 100000), true, false},
	} {
		ray, e := closed(0, 0, 1), api.OK
		if c.isOpen {
			ray = api.Ray{From: slot(0, 0), Open: true}
		}
		if c.isLarge {
			ray, e = api.Ray{}, api.ErrLarge
		}
		x, f := cylinder.Trace(torus(), slot(0, 0), vec(1, c.n), c.bound)
		wantSame(t, "Trace of "+c.what, sameRay, x, f, ray, e)
		l, f := cylinder.Traces(torus(), vec(1, c.n), c.bound)
		var rays []api.Ray
		if !c.isLarge {
			rays = []api.Ray{ray}
		}
		wantSame(t, "Traces of "+c.what, sameRays, l, f, rays, e)
		b, f := cylinder.Complete(torus(), vec(1, c.n), c.bound)
		wantList(t, "Complete of "+c.what, []bool{b}, f, []bool{!c.isOpen && !c.isLarge}, e)
		_, f = cylinder.Decompose(torus(), vec(1, c.n), c.bound)
		want(t, "Decompose of "+c.what, f, e)
	}
	// A ray that never ends.
	s, d := endless(t)
	_, e := cylinder.Traces(s, d, field.Whole(1000000))
	want(t, "Traces of a ray that does not end", e, api.ErrLarge)
	_, e = cylinder.Complete(s, d, field.Whole(1000000))
	want(t, "Complete of a ray that does not end", e, api.ErrLarge)
}

// P4.1, P4.2: at most 60 rays.
func TestMaxSaddles(t *testing.T) {
	for _, n := range []int{60, 61} {
		e, count := api.OK, n
		if n > api.MaxSaddles {
			e, count = api.ErrLarge, 0
		}
		s, d, bound := row(n), vec(1, 0), field.Whole(100)
		l, f := cylinder.Rays(s, d)
		want(t, "Rays", f, e)
		want(t, "their number", len(l), count)
		_, f = cylinder.Next(s, slot(3, 0), d)
		want(t, "Next", f, e)
		_, f = cylinder.Trace(s, slot(3, 0), d, bound)
		want(t, "Trace", f, e)
		_, f = cylinder.Traces(s, d, bound)
		want(t, "Traces", f, e)
		_, f = cylinder.Complete(s, d, bound)
		want(t, "Complete", f, e)
		x, f := cylinder.Decompose(s, d, bound)
		want(t, "Decompose", f, e)
		_, f = cylinder.Left(s, d, x.Rays)
		want(t, "Left", f, e)
		_, f = cylinder.Right(s, d, x.Rays)
		want(t, "Right", f, e)
		want(t, "CheckTraces", cylinder.CheckTraces(s, d, x.Rays), e)
		want(t, "CheckCylinder", cylinder.CheckCylinder(s, d, x, 0), e)
		_, f = cylinder.Locate(s, d, bound, spot(2, 1, 2, 1, 2))
		want(t, "Locate", f, e)
		_, f = cylinder.Areas(s, d, bound)
		want(t, "Areas", f, e)
		_, f = cylinder.Moduli(s, d, bound)
		want(t, "Moduli", f, e)
		_, f = cylinder.Twist(s, d, bound)
		want(t, "Twist", f, e)
		_, f = cylinder.Sheared(s, d, bound)
		want(t, "Sheared", f, api.OK)
	}
	// The errors of corners and bounds are listed before.
	_, e := cylinder.Next(row(61), slot(0, 4), vec(1, 0))
	want(t, "Next of no corner", e, api.ErrMissing)
	_, e = cylinder.Next(row(61), slot(0, 1), vec(1, 0))
	want(t, "Next of a corner without a ray", e, api.ErrForm)
	_, e = cylinder.Trace(row(61), slot(0, 0), vec(1, 0), field.Whole(-1))
	want(t, "Trace with a negative bound", e, api.ErrRange)
	_, e = cylinder.Locate(row(61), vec(1, 0), field.Whole(-1), api.Spot{})
	want(t, "Locate with a negative bound", e, api.ErrRange)
	want(t, "CheckTraces of no list", cylinder.CheckTraces(row(61), vec(1, 0), nil), api.ErrLarge)
}

// P4.2, P4.3: wrong traces are refused.
func TestCheckTraces(t *testing.T) {
	r := rand.New(rand.NewSource(3))
	for range 40 {
		s := random(r, 2+r.Intn(5))
		d := direction(r, s)
		l, e := cylinder.Traces(s, d, field.Whole(2+r.Intn(20)))
		want(t, "Traces", e, api.OK)
		i := r.Intn(len(l))
		for what, change := range map[string]func(l []api.Ray) []api.Ray{
			"a ray too few":     func(l []api.Ray) []api.Ray { return l[:len(l)-1] },
			"a ray too many":    func(l []api.Ray) []api.Ray { return append(l, l[0]) },
			"no rays":           func(l []api.Ray) []api.Ray { return nil },
			"another beginning": func(l []api.Ray) []api.Ray { l[i].From.Edge++; return l },
			"no beginning":      func(l []api.Ray) []api.Ray { l[i].From.Face = -1; return l },
			"another face":      func(l []api.Ray) []api.Ray { l[i].To.Face++; return l },
			"another end":       func(l []api.Ray) []api.Ray { l[i].To.Edge--; return l },
			"too far":           func(l []api.Ray) []api.Ray { l[i].T = numOf(add(rat(l[i].T), whole(1))); return l },
			"a negative T":      func(l []api.Ray) []api.Ray { l[i].T = field.Whole(-1); return l },
			"T 0":               func(l []api.Ray) []api.Ray { l[i].T, l[i].Open = api.Num{}, false; return l },
			"not far enough":    func(l []api.Ray) []api.Ray { l[i].T = numOf(quo(rat(l[i].T), whole(2))); return l },
			"both":              func(l []api.Ray) []api.Ray { l[i].Open = true; l[i].T = field.Whole(1); return l },
			"an end":            func(l []api.Ray) []api.Ray { l[i] = api.Ray{From: l[i].From, To: slot(0, 1), Open: true}; return l },
		} {
			if what == "not far enough" && l[i].Open {
				continue // half of 0 is 0
			}
			x := change(deep(l))
			want(t, "CheckTraces with "+what, cylinder.CheckTraces(s, d, x), api.ErrProof)
			n, e := cylinder.Left(s, d, x)
			wantList(t, "Left with "+what, n, e, nil, api.ErrProof)
			n, e = cylinder.Right(s, d, x)
			wantList(t, "Right with "+what, n, e, nil, api.ErrProof)
		}
		// Open rays are not traced.
		x := deep(l)
		x[i] = api.Ray{From: x[i].From, Open: true, T: api.Num{C: []api.Int{{100000000, -1}}}}
		want(t, "CheckTraces with an open ray", cylinder.CheckTraces(s, d, x), api.OK)
		n, e := cylinder.Left(s, d, x)
		want(t, "Left with an open ray", e, api.OK)
		want(t, "its successor", n[i], -1)
	}
}

// P4.2: the errors of traces, ray by ray.
func TestCheckTracesOrder(t *testing.T) {
	s, d := endless(t)
	l, e := cylinder.Traces(s, d, field.Whole(10))
	if e != api.OK || len(l) != 3 {
		t.Fatalf("Traces: %v, %d", l, e)
	}
	far := api.Ray{From: l[0].From, To: slot(0, 1), T: field.Whole(1000000)}
	x := deep(l)
	x[0] = far
	want(t, "CheckTraces with a ray that crosses too many edges", cylinder.CheckTraces(s, d, x), api.ErrLarge)
	x[1].From = slot(7, 7)
	want(t, "CheckTraces with a wrong ray behind", cylinder.CheckTraces(s, d, x), api.ErrLarge)
	want(t, "CheckTraces with too few", cylinder.CheckTraces(s, d, x[:2]), api.ErrProof)
	x[0], x[1] = l[0], l[1]
	x[0].To, x[1] = slot(0, 1), api.Ray{From: l[1].From, T: far.T}
	want(t, "CheckTraces with a wrong ray before", cylinder.CheckTraces(s, d, x), api.ErrProof)
	x[0] = far
	x[0].From = slot(0, 1)
	want(t, "CheckTraces with a wrong beginning", cylinder.CheckTraces(s, d, x), api.ErrProof)
	x[0] = far
	x[0].T = field.Whole(-1000000)
	want(t, "CheckTraces with a negative T", cylinder.CheckTraces(s, d, x), api.ErrProof)
}

// P4.3, P4.9: both successors are permutations if all rays are closed.
func TestSuccessors(t *testing.T) {
	r := rand.New(rand.NewSource(4))
	for range 30 {
		s := random(r, 1+r.Intn(8))
		d := direction(r, s)
		l, e := cylinder.Traces(s, d, field.Whole(1000))
		want(t, "Traces", e, api.OK)
		for _, side := range []func(api.Surface, api.Vec, []api.Ray) ([]int, api.Errno){cylinder.Left, cylinder.Right} {
			n, e := side(s, d, l)
			want(t, "successors", e, api.OK)
			slices.Sort(n)
			for i, k := range n {
				want(t, "a permutation", k, i)
			}
		}
	}
}
