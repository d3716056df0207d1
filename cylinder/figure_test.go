package cylinder_test

import (
	"math/rand"
	"slices"
	"testing"

	"flatland/api"
	"flatland/cylinder"
	"flatland/field"
	"flatland/surface"
)

// P4.6, P4.7: example 4.
func TestFiguresExample(t *testing.T) {
	l, e := cylinder.Areas(ell(), vec(1, 0), field.Whole(5))
	wantSame(t, "Areas", sameNums, l, e, []api.Num{field.Whole(2), field.Whole(1)}, api.OK)
	l, e = cylinder.Moduli(ell(), vec(1, 0), field.Whole(5))
	wantSame(t, "Moduli", sameNums, l, e, []api.Num{ratio(1, 2), field.Whole(1)}, api.OK)
	x, e := cylinder.Twist(ell(), vec(1, 0), field.Whole(5))
	wantSame(t, "Twist", sameShear, x, e, api.Shear{Tau: field.Whole(2), Times: []int{1, 2}, M: mat(1, 2, 0, 1)}, api.OK)
	// In another direction, of another length.
	l, e = cylinder.Moduli(ell(), vec(0, 3), field.Whole(5))
	wantSame(t, "Moduli", sameNums, l, e, []api.Num{ratio(1, 2), field.Whole(1)}, api.OK)
	x, e = cylinder.Twist(ell(), vec(0, 3), field.Whole(5))
	wantSame(t, "Twist", sameShear, x, e, api.Shear{Tau: ratio(2, 9), Times: []int{1, 2}, M: mat(1, 0, -2, 1)}, api.OK)
	x, e = cylinder.Twist(torus(), vec(1, 1), field.Whole(5))
	wantSame(t, "Twist", sameShear, x, e, api.Shear{Tau: field.Whole(1), Times: []int{1}, M: mat(0, 1, -1, 2)}, api.OK)
	// A part alone, and no cylinder.
	l, e = cylinder.Areas(steps(), vec(1, 0), field.Whole(1))
	wantSame(t, "Areas of a part", sameNums, l, e, []api.Num{field.Whole(2)}, api.OK)
	l, e = cylinder.Moduli(steps(), vec(1, 0), field.Whole(0))
	wantSame(t, "Moduli of nothing", sameNums, l, e, nil, api.OK)
}

// P4.6: areas and moduli of random surfaces, by their definitions.
func TestFiguresRandom(t *testing.T) {
	r := rand.New(rand.NewSource(14))
	for range 60 {
		s := random(r, 1+r.Intn(6))
		d, bound := direction(r, s), ratio(r.Intn(30), 1+r.Intn(3))
		x, e := cylinder.Decompose(s, d, bound)
		want(t, "Decompose", e, api.OK)
		var areas, moduli []api.Num
		for _, c := range x.Cylinders {
			areas = append(areas, numOf(mul(rat(c.T), rat(c.Height))))
			moduli = append(moduli, numOf(quo(rat(c.Height), mul(rat(c.T), pointOf(d).dot(pointOf(d))))))
		}
		poly := s.Field.Poly
		l, e := cylinder.Areas(untidySurface(r, s), untidyVec(r, d, poly), untidy(r, bound, poly))
		wantSame(t, "Areas", sameNums, l, e, areas, api.OK)
		l, e = cylinder.Moduli(untidySurface(r, s), untidyVec(r, d, poly), untidy(r, bound, poly))
		wantSame(t, "Moduli", sameNums, l, e, moduli, api.OK)
	}
}

// wantTwist checks that a multitwist is the least one, and that it takes the surface to itself.
func wantTwist(t *testing.T, s api.Surface, d api.Vec, bound api.Num) {
	t.Helper()
	r := open(t, s.Field, api.OK)
	decomposition, e := cylinder.Decompose(s, d, bound)
	x, f := cylinder.Twist(s, d, bound)
	if e != api.OK || f != api.OK {
		t.Fatalf("Decompose: %d, Twist: %d", e, f)
	}
	common := []int{}
	want(t, "the number of Times", len(x.Times), len(decomposition.Cylinders))
	for i, c := range decomposition.Cylinders {
		want(t, "Tau Height is Times T", r.Cmp(r.Mul(x.Tau, c.Height), r.Mul(field.Whole(x.Times[i]), c.T)), 0)
		common = field.Gcd(common, field.Of(x.Times[i]))
	}
	n, _ := field.Small(common)
	want(t, "Times have no common divisor", n, 1)
	want(t, "Tau is positive", r.Sign(x.Tau), 1)
	for _, v := range []api.Vec{vec(1, 0), vec(0, 1), d} {
		image := r.Sum(v, r.Times(r.Mul(x.Tau, r.Cross(d, v)), d))
		want(t, "M is the shear", sameVec(r.Apply(x.M, v), image), true)
	}
	y, e := cylinder.Sheared(s, d, x.Tau)
	want(t, "Sheared", e, api.OK)
	if c, _ := surface.Components(s); slices.Max(c) == 0 {
		want(t, "the label of the sheared surface", label(t, y), label(t, s))
	}
	z, e := surface.Apply(s, x.M)
	wantSame(t, "Sheared and Apply", sameSurface, y, api.OK, z, e)
}

// P4.7, P4.9: multitwists take surfaces to themselves.
func TestTwists(t *testing.T) {
	r := rand.New(rand.NewSource(15))
	_, eight := octagon(t)
	_, five := pentagons(t)
	wantTwist(t, eight, vec(1, 0), field.Whole(9))
	wantTwist(t, eight, eight.Faces[0][1], field.Whole(9))
	wantTwist(t, five, five.Faces[0][3], field.Whole(9))
	wantTwist(t, both(torus(), ell()), vec(1, 0), field.Whole(9))
	count := 0
	for range 60 {
		s := random(r, 1+r.Intn(5))
		d := direction(r, s)
		x, e := cylinder.Decompose(s, d, field.Whole(100))
		if e == api.OK && rat(x.Rest).Sign() == 0 {
			wantTwist(t, s, d, field.Whole(100))
			count++
		}
	}
	if count < 40 {
		t.Errorf("%d multitwists", count)
	}
	// Both cylinders of the pentagons have one modulus.
	x, e := cylinder.Twist(five, five.Faces[0][0], field.Whole(9))
	wantList(t, "Times of the pentagons", x.Times, e, []int{1, 1}, api.OK)
}

// tall returns tori of the width 1 with these heights, as one surface.
func tall(heights ...int) api.Surface {
	s := parallelogram(1, 0, 0, heights[0])
	for _, h := range heights[1:] {
		s = both(s, parallelogram(1, 0, 0, h))
	}
	return s
}

// P4.7: the errors of multitwists, in their order.
func TestTwistErrors(t *testing.T) {
	_, golden := skewed(t)
	rational := deep(golden)
	rational.Faces, rational.Glue = tall(1, 1000000007).Faces, tall(1, 1000000007).Glue
	for _, c := range []struct {
		what  string
		s     api.Surface
		d     api.Vec
		bound int
		e     api.Errno
	}{
		{"a rest", steps(), vec(1, 0), 1, api.ErrOpen},
		{"no cylinder", ell(), vec(1, 0), 0, api.ErrOpen},
		{"too many edges", torus(), vec(1, 5000), 5, api.ErrLarge},
		{"quotients that are not rational", golden, vec(1, 0), 5, api.ErrNone},
		{"quotients that are not rational, up", golden, vec(0, 1), 5, api.ErrNone},
		{"a rest, and quotients that are not rational", both(golden, both(golden, torus())), vec(1, 0), 2, api.ErrOpen},
		{"large numbers and quotients that are not rational", both(rational, golden), vec(1, 0), 9, api.ErrNone},
		{"large numbers", rational, vec(1, 0), 9, api.ErrLarge},
		{"1000000000 times", tall(1, 1000000000), vec(1, 0), 1, api.OK},
		{"1000000001 times", tall(1, 1000000001), vec(1, 0), 1, api.ErrLarge},
		{"1000000001 times for the first one", tall(1000000001, 1), vec(1, 0), 1, api.ErrLarge},
		{"very large numbers", tall(1000000007, 998244353, 1000000009), vec(1, 0), 1, api.ErrLarge},
		{"a common divisor", tall(6000000042, 4000000028), vec(1, 0), 1, api.OK},
	} {
		x, e := cylinder.Twist(c.s, c.d, field.Whole(c.bound))
		want(t, "Twist with "+c.what, e, c.e)
		if e != api.OK {
			wantSame(t, "Twist with "+c.what, sameShear, x, e, api.Shear{}, c.e)
		}
	}
	x, e := cylinder.Twist(tall(1, 1000000000), vec(1, 0), field.Whole(1))
	wantSame(t, "Twist", sameShear, x, e, api.Shear{Tau: field.Whole(1), Times: []int{1, 1000000000}, M: mat(1, 1, 0, 1)}, api.OK)
	x, e = cylinder.Twist(tall(6000000042, 4000000028), vec(1, 0), field.Whole(1))
	wantSame(t, "Twist with a common divisor", sameShear, x, e, api.Shear{Tau: ratio(1, 2000000014), Times: []int{3, 2}, M: api.Mat{A: field.Whole(1), B: ratio(1, 2000000014), C: field.Whole(0), D: field.Whole(1)}}, api.OK)
}

// P4.7: any shear.
func TestSheared(t *testing.T) {
	s, e := cylinder.Sheared(torus(), vec(1, 0), ratio(-3, 2))
	x := torus()
	x.Faces[0] = []api.Vec{vec(1, 0), {X: ratio(-3, 2), Y: field.Whole(1)}, vec(-1, 0), {X: ratio(3, 2), Y: field.Whole(-1)}}
	wantSame(t, "Sheared", sameSurface, s, e, x, api.OK)
	s, e = cylinder.Sheared(ell(), vec(2, 5), api.Num{})
	wantSame(t, "Sheared by 0", sameSurface, s, e, ell(), api.OK)
	r := rand.New(rand.NewSource(16))
	for range 20 {
		s := random(r, 1+r.Intn(5))
		d, tau := direction(r, s), ratio(r.Intn(21)-10, 1+r.Intn(4))
		x := deep(s)
		for _, l := range x.Faces {
			for i, v := range l {
				p := pointOf(d).times(mul(rat(tau), pointOf(d).cross(pointOf(v)))).plus(pointOf(v))
				l[i] = api.Vec{X: numOf(p.x), Y: numOf(p.y)}
			}
		}
		y, e := cylinder.Sheared(untidySurface(r, s), untidyVec(r, d, s.Field.Poly), untidy(r, tau, s.Field.Poly))
		wantSame(t, "Sheared", sameSurface, y, e, x, api.OK)
	}
	y, e := cylinder.Sheared(torus(), vec(0, 0), field.Whole(1))
	wantSame(t, "Sheared in no direction", sameSurface, y, e, api.Surface{}, api.ErrZero)
	y, e = cylinder.Sheared(api.Surface{}, vec(0, 0), field.Whole(1))
	wantSame(t, "Sheared without a surface", sameSurface, y, e, api.Surface{}, api.ErrShape)
}

// P4.8: texts, also of what is no decomposition.
func TestPrint(t *testing.T) {
	x, _ := cylinder.Decompose(ell(), vec(1, 0), field.Whole(5))
	_, golden := skewed(t)
	w := api.Num{C: []api.Int{{-3}, {0, 1}}, D: api.Int{7}}
	odd := api.Decomposition{Cylinders: []api.Cylinder{{Below: []int{-5, 7}, T: w, Height: api.Num{D: api.Int{0}}, Twist: api.Num{C: []api.Int{{-6}}, D: api.Int{-4}}}, {Above: []int{3, 3}}}, Rest: field.Whole(-2)}
	for _, c := range []struct {
		what string
		s    api.Surface
		x    api.Decomposition
		text string
		e    api.Errno
	}{
		{"the L", ell(), x, "cylinder 0 1 / 1 2 T 2 H 1 W 1\ncylinder 2 / 0 T 1 H 1 W 0\nrest 0\n", api.OK},
		{"nothing", ell(), api.Decomposition{}, "rest 0\n", api.OK},
		{"odd numbers", golden, odd, "cylinder -5 7 / T -3,100000000/7 H 0 W 3/2\ncylinder / 3 3 T 0 H 0 W 0\nrest -2\n", api.OK},
		{"no surface", api.Surface{}, x, "", api.ErrShape},
	} {
		text, e := cylinder.Print(c.s, c.x)
		wantList(t, "Print of "+c.what, []string{text}, e, []string{c.text}, c.e)
	}
}
