package cylinder_test

import (
	"math"
	"math/rand"
	"slices"
	"testing"

	"flatland/api"
	"flatland/cylinder"
	"flatland/field"
	"flatland/surface"
)

// band returns a cylinder with whole numbers.
func band(below, above []int, t, height, twist int) api.Cylinder {
	return api.Cylinder{Below: below, Above: above, T: field.Whole(t), Height: field.Whole(height), Twist: field.Whole(twist)}
}

// P4.4: examples 1, 2 and 3.
func TestDecomposeExamples(t *testing.T) {
	one := []int{0}
	half := band(one, one, 1, 1, 0)
	half.Twist = ratio(1, 2)
	rays := []api.Ray{closed(0, 2, 1), closed(1, 1, 1), closed(2, 0, 1)}
	for _, c := range []struct {
		what  string
		s     api.Surface
		d     api.Vec
		bound api.Num
		x     api.Decomposition
	}{
		{"the torus", torus(), vec(1, 0), field.Whole(5), api.Decomposition{Rays: []api.Ray{closed(0, 0, 1)}, Cylinders: []api.Cylinder{band(one, one, 1, 1, 0)}}},
		{"the torus and a diagonal", torus(), vec(1, 1), field.Whole(5), api.Decomposition{Rays: []api.Ray{closed(0, 0, 1)}, Cylinders: []api.Cylinder{half}}},
		{"the L", ell(), vec(1, 0), field.Whole(5), api.Decomposition{Rays: rays, Cylinders: []api.Cylinder{band([]int{0, 1}, []int{1, 2}, 2, 1, 1), band([]int{2}, one, 1, 1, 0)}}},
		{"the L up to the T of its rays", ell(), vec(1, 0), field.Whole(1), api.Decomposition{Rays: rays, Cylinders: []api.Cylinder{band([]int{0, 1}, []int{1, 2}, 2, 1, 1), band([]int{2}, one, 1, 1, 0)}}},
	} {
		c.x.Rest = field.Whole(0)
		x, e := cylinder.Decompose(c.s, c.d, c.bound)
		wantSame(t, "Decompose of "+c.what, sameDecomposition, x, e, c.x, api.OK)
		b, e := cylinder.Complete(c.s, c.d, c.bound)
		wantList(t, "Complete of "+c.what, []bool{b}, e, []bool{true}, api.OK)
		for i := range x.Cylinders {
			want(t, "CheckCylinder of "+c.what, cylinder.CheckCylinder(c.s, c.d, x, i), api.OK)
		}
	}
}

// P4.4: nothing ends up to the bound.
func TestDecomposeOpen(t *testing.T) {
	rays := []api.Ray{{From: slot(0, 0), Open: true}, {From: slot(1, 0), Open: true}, {From: slot(2, 0), Open: true}}
	for _, bound := range []api.Num{{}, ratio(1, 2), ratio(99999, 100000)} {
		x, e := cylinder.Decompose(ell(), vec(1, 0), bound)
		wantSame(t, "Decompose up to less than 1", sameDecomposition, x, e, api.Decomposition{Rays: rays, Rest: field.Whole(3)}, api.OK)
		b, e := cylinder.Complete(ell(), vec(1, 0), bound)
		wantList(t, "Complete up to less than 1", []bool{b}, e, []bool{false}, api.OK)
		want(t, "CheckCylinder of none", cylinder.CheckCylinder(ell(), vec(1, 0), x, 0), api.ErrMissing)
	}
	s, d := endless(t)
	x, e := cylinder.Decompose(s, d, field.Whole(50))
	wantSame(t, "Decompose without a cylinder", sameDecomposition, x, e, api.Decomposition{Rays: []api.Ray{{From: x.Rays[0].From, Open: true}, {From: x.Rays[1].From, Open: true}, {From: x.Rays[2].From, Open: true}}, Rest: field.Whole(3)}, api.OK)
}

// P4.4: rays that are closed only up to the greatest circumference, and what is above them.
func TestGreaterThanTheBound(t *testing.T) {
	short := []api.Ray{{From: slot(0, 0), To: slot(1, 2), T: field.Whole(1)}, {From: slot(0, 1), To: slot(1, 3), T: field.Whole(1)}, {From: slot(1, 0), Open: true}}
	l, e := cylinder.Traces(steps(), vec(1, 0), field.Whole(1))
	wantSame(t, "Traces up to 1", sameRays, l, e, short, api.OK)
	long := deep(short)
	long[2] = api.Ray{From: slot(1, 0), To: slot(0, 3), T: field.Whole(2)}
	x, e := cylinder.Decompose(steps(), vec(1, 0), field.Whole(1))
	wantSame(t, "Decompose up to 1", sameDecomposition, x, e, api.Decomposition{Rays: long, Cylinders: []api.Cylinder{band([]int{0, 1}, []int{2}, 2, 1, 0)}, Rest: field.Whole(2)}, api.OK)
	y, e := cylinder.Decompose(steps(), vec(1, 0), field.Whole(2))
	wantSame(t, "Decompose up to 2", sameDecomposition, y, e, api.Decomposition{Rays: long, Cylinders: []api.Cylinder{band([]int{0, 1}, []int{2}, 2, 1, 0), band([]int{2}, []int{0, 1}, 2, 1, 1)}, Rest: field.Whole(0)}, api.OK)
	b, e := cylinder.Complete(steps(), vec(1, 0), ratio(199, 100))
	wantList(t, "Complete up to less than 2", []bool{b}, e, []bool{false}, api.OK)
	want(t, "CheckCylinder", cylinder.CheckCylinder(steps(), vec(1, 0), x, 0), api.OK)
	want(t, "CheckCylinder of the other one", cylinder.CheckCylinder(steps(), vec(1, 0), y, 1), api.OK)
	// The upper side is traced, though it is open in the rays; then it is refused.
	x.Rays = short
	want(t, "CheckCylinder with an open upper side", cylinder.CheckCylinder(steps(), vec(1, 0), x, 0), api.ErrProof)
	y.Rays = short
	want(t, "CheckCylinder with an open lower side", cylinder.CheckCylinder(steps(), vec(1, 0), y, 1), api.ErrProof)
	// The other rays do not matter.
	z := both(steps(), torus())
	x, e = cylinder.Decompose(z, vec(1, 0), field.Whole(9))
	want(t, "Decompose", e, api.OK)
	x.Rays[3] = api.Ray{From: x.Rays[3].From, Open: true}
	want(t, "CheckCylinder with another ray open", cylinder.CheckCylinder(z, vec(1, 0), x, 0), api.OK)
	want(t, "CheckCylinder with its own ray open", cylinder.CheckCylinder(z, vec(1, 0), x, 2), api.ErrProof)
}

// thin is a torus over the field of the square root of 2 whose rays in the direction (1, 0) do not end, and cross more than 1000 edges up to T 1.
func thin(t *testing.T) api.Surface {
	f, e := field.Root(2)
	r := open(t, f, e)
	s := torus()
	s.Field = f
	s, e = surface.Apply(s, api.Mat{A: ratio(1, 1000), B: number(t, r, "0,-1/1000"), C: number(t, r, "0,1/1000"), D: ratio(1, 1000)})
	want(t, "Apply", e, api.OK)
	return s
}

// P4.4: rays that cross too many edges up to the greatest circumference.
func TestDecomposeLarge(t *testing.T) {
	s := row(4)
	s.Field = thin(t).Field
	s = both(s, thin(t))
	l, e := cylinder.Traces(s, vec(1, 0), field.Whole(1))
	want(t, "Traces up to 1", e, api.OK)
	_, e = cylinder.Traces(s, vec(1, 0), field.Whole(4))
	want(t, "Traces up to 4", e, api.ErrLarge)
	b, e := cylinder.Complete(s, vec(1, 0), field.Whole(1))
	wantList(t, "Complete up to 1", []bool{b}, e, []bool{false}, api.OK)
	x, e := cylinder.Decompose(s, vec(1, 0), field.Whole(1))
	wantSame(t, "Decompose up to 1", sameDecomposition, x, e, api.Decomposition{}, api.ErrLarge)
	x = api.Decomposition{Rays: l, Cylinders: []api.Cylinder{band([]int{0, 1, 2, 3}, []int{0, 1, 2, 3}, 4, 1, 0), band([]int{1, 2, 3, 0}, nil, 0, 0, 0)}}
	want(t, "CheckCylinder", cylinder.CheckCylinder(s, vec(1, 0), x, 0), api.ErrLarge)
	want(t, "CheckCylinder of no lower side", cylinder.CheckCylinder(s, vec(1, 0), x, 1), api.ErrProof)
	want(t, "CheckCylinder of none", cylinder.CheckCylinder(s, vec(1, 0), x, 2), api.ErrMissing)
	x, e = cylinder.Decompose(s, vec(1, 0), ratio(1, 2))
	want(t, "Decompose up to 1/2", e, api.OK)
	want(t, "its cylinders", len(x.Cylinders), 0)
}

// P4.4: the line across may cross 2000 edges, but no more.
func TestLineAcross(t *testing.T) {
	// The line straight up from the corner of the torus with the sides (1, 0) and (n, 1) crosses n - 1 edges.
	for _, n := range []int{2001, 2002, -2001, -2002} {
		s := parallelogram(1, 0, n, 1)
		x := api.Decomposition{Rays: []api.Ray{closed(0, 0, 1)}, Cylinders: []api.Cylinder{band([]int{0}, []int{0}, 1, 1, 0)}, Rest: field.Whole(0)}
		e := api.OK
		y := x
		if n%2 == 0 {
			y, e = api.Decomposition{}, api.ErrLarge
		}
		l, f := cylinder.Traces(s, vec(1, 0), field.Whole(1))
		wantSame(t, "Traces", sameRays, l, f, x.Rays, api.OK)
		b, f := cylinder.Complete(s, vec(1, 0), field.Whole(1))
		wantList(t, "Complete", []bool{b}, f, []bool{true}, api.OK)
		z, f := cylinder.Decompose(s, vec(1, 0), field.Whole(1))
		wantSame(t, "Decompose", sameDecomposition, z, f, y, e)
		want(t, "CheckCylinder", cylinder.CheckCylinder(s, vec(1, 0), x, 0), e)
		x.Cylinders[0].Height = field.Whole(2)
		if e == api.OK {
			e = api.ErrProof
		}
		want(t, "CheckCylinder of a wrong height", cylinder.CheckCylinder(s, vec(1, 0), x, 0), e)
		x.Cylinders[0].Below = nil
		want(t, "CheckCylinder of a wrong side", cylinder.CheckCylinder(s, vec(1, 0), x, 0), api.ErrProof)
	}
}

// wantDecomposition compares everything about a decomposition with the definition.
func wantDecomposition(t *testing.T, r *rand.Rand, s api.Surface, d api.Vec, bound api.Num) api.Decomposition {
	t.Helper()
	w := worldOf(s, d)
	x := w.decompose(rat(bound))
	poly := s.Field.Poly
	y, e := cylinder.Decompose(untidySurface(r, s), untidyVec(r, d, poly), untidy(r, bound, poly))
	wantSame(t, "Decompose", sameDecomposition, y, e, x, api.OK)
	complete := !slices.ContainsFunc(w.traces(rat(bound)), func(x api.Ray) bool { return x.Open })
	b, e := cylinder.Complete(untidySurface(r, s), untidyVec(r, d, poly), untidy(r, bound, poly))
	wantList(t, "Complete", []bool{b}, e, []bool{complete}, api.OK)
	for i := range x.Cylinders {
		want(t, "CheckCylinder", cylinder.CheckCylinder(untidySurface(r, s), untidyVec(r, d, poly), untidyDecomposition(r, y, poly), i), api.OK)
	}
	return x
}

// P4.4: random surfaces, directions and bounds, compared with the definitions.
func TestDecomposeRandom(t *testing.T) {
	r := rand.New(rand.NewSource(5))
	rest, count, twisted := 0, 0, 0
	for range 250 {
		s := random(r, 1+r.Intn(7))
		x := wantDecomposition(t, r, s, direction(r, s), ratio(r.Intn(16), 1+r.Intn(5)))
		if rat(x.Rest).Sign() > 0 && len(x.Cylinders) > 0 {
			rest++
		}
		count += len(x.Cylinders)
		for _, c := range x.Cylinders {
			if rat(c.Twist).Sign() > 0 {
				twisted++
			}
		}
	}
	if rest < 10 || count < 200 || twisted < 100 {
		t.Errorf("%d partly decomposed, %d cylinders, %d twisted", rest, count, twisted)
	}
}

// assembled returns the surface that is glued from the cylinders of a decomposition without a rest: face i is cylinder i, from the beginning of the first ray of its lower side on. It returns false if a face would have too many edges.
func assembled(r *field.Real, s api.Surface, d api.Vec, x api.Decomposition) (api.Surface, bool) {
	z := api.Surface{Field: s.Field}
	square := r.Add(r.Mul(d.X, d.X), r.Mul(d.Y, d.Y))
	minus := func(v api.Vec) api.Vec { return r.Times(field.Whole(-1), v) }
	lower, upper := map[int]api.Slot{}, map[int]api.Slot{}
	for f, c := range x.Cylinders {
		if len(c.Below)+len(c.Above)+2 > api.MaxEdges {
			return z, false
		}
		part, _ := r.Quo(c.Height, square)
		side := r.Sum(r.Times(part, api.Vec{X: minus(d).Y, Y: d.X}), r.Times(c.Twist, d))
		var edges []api.Vec
		for _, i := range c.Below {
			lower[i] = slot(f, len(edges))
			edges = append(edges, r.Times(x.Rays[i].T, d))
		}
		edges = append(edges, side)
		for _, i := range slices.Backward(c.Above) {
			upper[i] = slot(f, len(edges))
			edges = append(edges, minus(r.Times(x.Rays[i].T, d)))
		}
		z.Faces = append(z.Faces, append(edges, minus(side)))
	}
	for f, c := range x.Cylinders {
		glue := make([]api.Slot, len(z.Faces[f]))
		for _, i := range c.Below {
			glue[lower[i].Edge] = upper[i]
		}
		for _, i := range c.Above {
			glue[upper[i].Edge] = lower[i]
		}
		n := len(glue) - 1
		glue[len(c.Below)], glue[n] = slot(f, n), slot(f, len(c.Below))
		z.Glue = append(z.Glue, glue)
	}
	return z, true
}

// label returns the label of a surface.
func label(t *testing.T, s api.Surface) string {
	t.Helper()
	l, e := surface.Label(s)
	want(t, "Label", e, api.OK)
	return l
}

// P4.4, P4.9: glued together along their sides, the cylinders give the surface back.
func TestAssembled(t *testing.T) {
	r := rand.New(rand.NewSource(6))
	_, eight := octagon(t)
	_, five := pentagons(t)
	_, golden := skewed(t)
	list := []api.Surface{torus(), ell(), steps(), eight, five, golden}
	for range 40 {
		list = append(list, random(r, 1+r.Intn(7)))
	}
	count := 0
	for _, s := range list {
		if c, _ := surface.Components(s); slices.Max(c) > 0 {
			continue
		}
		real := open(t, s.Field, api.OK)
		for range 4 {
			d := direction(r, s)
			x, e := cylinder.Decompose(s, d, field.Whole(50))
			if e != api.OK || real.Sign(x.Rest) != 0 {
				continue
			}
			z, ok := assembled(real, s, d, x)
			if ok {
				want(t, "the label of the cylinders", label(t, z), label(t, s))
				count++
			}
		}
	}
	if count < 120 {
		t.Errorf("%d surfaces", count)
	}
}

// P4.4, P4.6, P4.7: the octagon in the direction of a side: the middle is one cylinder, and what is above it and below it is the other one.
func TestOctagon(t *testing.T) {
	r, s := octagon(t)
	n := func(text string) api.Num { return number(t, r, text) }
	ray := func(from, to int, length string) api.Ray {
		return api.Ray{From: slot(0, from), To: slot(0, to), T: n(length)}
	}
	x, e := cylinder.Decompose(s, vec(1, 0), field.Whole(2))
	wantSame(t, "Decompose up to 2", sameDecomposition, x, e, api.Decomposition{Rays: []api.Ray{ray(0, 4, "2"), {From: slot(0, 6), Open: true}, {From: slot(0, 7), Open: true}}, Rest: n("8,8")}, api.OK)
	x, e = cylinder.Decompose(s, vec(1, 0), n("2,2"))
	wantSame(t, "Decompose", sameDecomposition, x, e, api.Decomposition{
		Rays: []api.Ray{ray(0, 4, "2"), ray(6, 3, "2,2"), ray(7, 2, "2,2")},
		Cylinders: []api.Cylinder{
			{Below: []int{0, 1}, Above: []int{0, 2}, T: n("4,2"), Height: n("0,1"), Twist: n("2,1")},
			{Below: []int{2}, Above: []int{1}, T: n("2,2"), Height: n("2"), Twist: n("0")},
		},
		Rest: n("0"),
	}, api.OK)
	a, e := cylinder.Areas(s, vec(1, 0), n("2,2"))
	wantSame(t, "Areas", sameNums, a, e, []api.Num{n("4,4"), n("4,4")}, api.OK)
	a, e = cylinder.Moduli(s, vec(1, 0), n("2,2"))
	wantSame(t, "Moduli", sameNums, a, e, []api.Num{n("-1,1/2"), n("-1,1")}, api.OK)
	m, e := cylinder.Twist(s, vec(1, 0), n("2,2"))
	wantSame(t, "Twist", sameShear, m, e, api.Shear{Tau: n("2,2"), Times: []int{1, 2}, M: api.Mat{A: n("1"), B: n("2,2"), C: n("0"), D: n("1")}}, api.OK)
	text, e := cylinder.Print(s, x)
	wantList(t, "Print", []string{text}, e, []string{"cylinder 0 1 / 0 2 T 4,2 H 0,1 W 2,1\ncylinder 2 / 1 T 2,2 H 2 W 0\nrest 0\n"}, api.OK)
}

// P4.9: circumferences and heights in opposite directions are the same; heights and circumferences are positive, the twist is from 0 to less than T, and the areas add up; each closed cycle of right successors is the upper side of one cylinder.
func TestConsequences(t *testing.T) {
	r := rand.New(rand.NewSource(7))
	_, eight := octagon(t)
	_, five := pentagons(t)
	list := []api.Surface{eight, five, both(ell(), torus())}
	for range 30 {
		list = append(list, random(r, 1+r.Intn(7)))
	}
	for _, s := range list {
		real := open(t, s.Field, api.OK)
		d := direction(r, s)
		x, e := cylinder.Decompose(s, d, field.Whole(100))
		if e != api.OK {
			continue
		}
		y, e := cylinder.Decompose(s, real.Times(field.Whole(-1), d), field.Whole(100))
		want(t, "Decompose back", e, api.OK)
		wantList(t, "the cylinders back", shapes(real, y), e, shapes(real, x), api.OK)
		sum, _ := surface.Area(s)
		var sides [][]int
		for _, c := range x.Cylinders {
			sum = real.Sub(sum, real.Mul(c.T, c.Height))
			want(t, "T and Height are positive", real.Sign(c.T)+real.Sign(c.Height), 2)
			want(t, "the twist", real.Sign(c.Twist) >= 0 && real.Cmp(c.Twist, c.T) < 0, true)
			want(t, "the least numbers first", slices.Min(c.Below) == c.Below[0] && slices.Min(c.Above) == c.Above[0], true)
			sides = append(sides, c.Above)
		}
		want(t, "the rest", real.Cmp(sum, x.Rest), 0)
		want(t, "it is not negative", real.Sign(x.Rest) >= 0, true)
		want(t, "the order", slices.IsSortedFunc(x.Cylinders, func(a, b api.Cylinder) int { return a.Below[0] - b.Below[0] }), true)
		if b, _ := cylinder.Complete(s, d, field.Whole(100)); b {
			want(t, "no rest", real.Sign(x.Rest), 0)
			n, e := cylinder.Right(s, d, x.Rays)
			want(t, "Right", e, api.OK)
			slices.SortFunc(sides, slices.Compare)
			want(t, "the upper sides", slices.EqualFunc(sides, cycles(n), slices.Equal), true)
		}
	}
}

// shapes returns the texts of the circumferences and heights, sorted.
func shapes(r *field.Real, x api.Decomposition) []string {
	var l []string
	for _, c := range x.Cylinders {
		l = append(l, r.Format(c.T)+" "+r.Format(c.Height))
	}
	slices.Sort(l)
	return l
}

// P4.4: what is no cylinder is refused.
func TestCheckCylinder(t *testing.T) {
	r := rand.New(rand.NewSource(8))
	for range 40 {
		s := random(r, 2+r.Intn(6))
		d := direction(r, s)
		x, e := cylinder.Decompose(s, d, field.Whole(60))
		if e != api.OK || len(x.Cylinders) == 0 {
			continue
		}
		i := r.Intn(len(x.Cylinders))
		for _, k := range []int{-1, len(x.Cylinders), math.MinInt, math.MaxInt} {
			want(t, "CheckCylinder of none", cylinder.CheckCylinder(s, d, x, k), api.ErrMissing)
		}
		for what, change := range map[string]func(c *api.Cylinder){
			"no lower side":        func(c *api.Cylinder) { c.Below = nil },
			"no upper side":        func(c *api.Cylinder) { c.Above = nil },
			"a ray too many":       func(c *api.Cylinder) { c.Below = append(c.Below, c.Below[0]) },
			"the same rays twice":  func(c *api.Cylinder) { c.Below = append(c.Below, c.Below...) },
			"a ray too many above": func(c *api.Cylinder) { c.Above = append(c.Above, c.Above[0]) },
			"no such ray":          func(c *api.Cylinder) { c.Below[0] = len(x.Rays) },
			"a negative number":    func(c *api.Cylinder) { c.Below[0] = -1 },
			"a large number":       func(c *api.Cylinder) { c.Below[len(c.Below)-1] = math.MaxInt },
			"no such ray above":    func(c *api.Cylinder) { c.Above[0] = math.MinInt },
			"another T":            func(c *api.Cylinder) { c.T = numOf(add(rat(c.T), whole(1))) },
			"another height":       func(c *api.Cylinder) { c.Height = numOf(quo(rat(c.Height), whole(2))) },
			"a twist that is not reduced": func(c *api.Cylinder) {
				c.Twist = numOf(add(rat(c.Twist), rat(c.T)))
			},
			"another twist": func(c *api.Cylinder) { c.Twist = numOf(add(rat(c.Twist), quo(rat(c.T), whole(2)))) },
		} {
			y := deep(x)
			change(&y.Cylinders[i])
			want(t, "CheckCylinder with "+what, cylinder.CheckCylinder(s, d, y, i), api.ErrProof)
			// The other elements and the rest are not looked at.
			y.Rest = field.Whole(-7)
			if k := (i + 1) % len(x.Cylinders); k != i {
				want(t, "CheckCylinder of another one", cylinder.CheckCylinder(s, d, y, k), api.OK)
			}
		}
		if n := len(x.Cylinders[i].Below); n > 1 {
			y := deep(x)
			l := y.Cylinders[i].Below
			y.Cylinders[i].Below = slices.Concat(l[1:], l[:1])
			want(t, "CheckCylinder with a turned lower side", cylinder.CheckCylinder(s, d, y, i), api.ErrProof)
			y.Cylinders[i].Below = l[:n-1]
			want(t, "CheckCylinder with a ray too few", cylinder.CheckCylinder(s, d, y, i), api.ErrProof)
		}
		if l := x.Cylinders[i].Above; len(l) > 1 {
			y := deep(x)
			y.Cylinders[i].Above = slices.Concat(l[1:], l[:1])
			want(t, "CheckCylinder with a turned upper side", cylinder.CheckCylinder(s, d, y, i), api.ErrProof)
		}
		y := deep(x)
		y.Rays[x.Cylinders[i].Above[0]] = api.Ray{From: y.Rays[x.Cylinders[i].Above[0]].From, Open: true}
		want(t, "CheckCylinder with an open ray of the upper side", cylinder.CheckCylinder(s, d, y, i), api.ErrProof)
		y.Rays[0].From.Edge = -5
		want(t, "CheckCylinder with wrong rays and no element", cylinder.CheckCylinder(s, d, y, -1), api.ErrProof)
		want(t, "CheckCylinder without rays", cylinder.CheckCylinder(s, d, api.Decomposition{Cylinders: x.Cylinders}, i), api.ErrProof)
	}
}
