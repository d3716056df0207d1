package billiard_test

import (
	"math/big"
	"math/rand"
	"slices"
	"testing"

	"flatland/api"
	"flatland/billiard"
	"flatland/field"
)

// want checks a value that contains no lists.
func want[T comparable](t *testing.T, what string, a, b T) {
	t.Helper()
	if a != b {
		t.Errorf("%s: %v, want %v", what, a, b)
	}
}

// wantCode checks a list and an error; nil and empty lists are the same.
func wantCode(t *testing.T, what string, a []int, e api.Errno, b []int, f api.Errno) {
	t.Helper()
	if !slices.Equal(a, b) || e != f {
		t.Errorf("%s: %v, %d, want %v, %d", what, a, e, b, f)
	}
}

// sameNum reports whether two numbers have the same elements; nil and empty lists are the same.
func sameNum(x, y api.Num) bool {
	return slices.EqualFunc(x.C, y.C, slices.Equal) && slices.Equal(x.D, y.D)
}

func sameVec(u, v api.Vec) bool { return sameNum(u.X, v.X) && sameNum(u.Y, v.Y) }

func sameMat(m, n api.Mat) bool {
	return sameNum(m.A, n.A) && sameNum(m.B, n.B) && sameNum(m.C, n.C) && sameNum(m.D, n.D)
}

func sameState(s, q api.State) bool {
	return s.Side == q.Side && sameNum(s.T, q.T) && sameVec(s.Dir, q.Dir)
}

func sameMove(m, n api.Move) bool { return sameMat(m.Linear, n.Linear) && sameVec(m.Shift, n.Shift) }

func sameBeam(a, b api.Beam) bool {
	return sameNum(a.Lo, b.Lo) && sameNum(a.Hi, b.Hi) && sameNum(a.Square, b.Square)
}

func sameTable(a, b api.Table) bool {
	return sameField(a.Field, b.Field) && slices.EqualFunc(a.Corners, b.Corners, sameVec)
}

func sameField(f, g api.Field) bool {
	return slices.Equal(f.Poly, g.Poly) && f.Lo == g.Lo && f.Hi == g.Hi && f.Den == g.Den
}

// wantSame checks a value with lists and an error.
func wantSame[T any](t *testing.T, what string, same func(a, b T) bool, a T, e api.Errno, b T, f api.Errno) {
	t.Helper()
	if !same(a, b) || e != f {
		t.Errorf("%s: %v, %d, want %v, %d", what, a, e, b, f)
	}
}

// ratio returns a fraction.
func ratio(a, b int) api.Num {
	x, _ := field.Ratio(a, b)
	return x
}

// vec returns a vector of whole numbers.
func vec(x, y int) api.Vec { return api.Vec{X: field.Whole(x), Y: field.Whole(y)} }

// mat returns a matrix of whole numbers.
func mat(a, b, c, d int) api.Mat {
	return api.Mat{A: field.Whole(a), B: field.Whole(b), C: field.Whole(c), D: field.Whole(d)}
}

// state returns a state in a whole direction.
func state(side, a, b, x, y int) api.State {
	return api.State{Side: side, T: ratio(a, b), Dir: vec(x, y)}
}

// polygon returns a table over the fractions, with the whole coordinates x, y, x, y, ..
func polygon(at ...int) api.Table {
	t := api.Table{Field: field.Rational()}
	for p := range slices.Chunk(at, 2) {
		t.Corners = append(t.Corners, vec(p[0], p[1]))
	}
	return t
}

func square() api.Table { return polygon(0, 0, 1, 0, 1, 1, 0, 1) }

func triangle() api.Table { return polygon(0, 0, 4, 0, 0, 3) }

// angle is an L: it has the reflex corner (1, 1).
func angle() api.Table { return polygon(0, 0, 2, 0, 2, 1, 1, 1, 1, 2, 0, 2) }

// cave is a polygon with a bay, from the left, and an arm that goes around and comes back into it.
func cave() api.Table {
	return polygon(-2, 0, 20, 0, 20, 14, -6, 14, -3, 4, 3, 5, -1, 6, -4, 12, 19, 12, 19, 10, -2, 10, 10, 5)
}

// open opens a field.
func open(t *testing.T, f api.Field, e api.Errno) *field.Real {
	t.Helper()
	r, g := field.Open(f)
	if e != api.OK || g != api.OK {
		t.Fatalf("Open of %v: %d, %d", f, e, g)
	}
	return r
}

// pentagon returns the regular pentagon in the unit circle, over a field of degree 4: w = 2 cos 18.
func pentagon(t *testing.T) (*field.Real, api.Table) {
	f, e := field.Cosine(10)
	r := open(t, f, e)
	p := api.Table{Field: f}
	for _, c := range [][2]string{{"1", "0"}, {"-3,0,1/2", "0,1/2"}, {"2,0,-1/2", "0,-3,0,1/2"}, {"2,0,-1/2", "0,3,0,-1/2"}, {"-3,0,1/2", "0,-1/2"}} {
		x, e := r.Parse(c[0])
		y, g := r.Parse(c[1])
		if e != api.OK || g != api.OK {
			t.Fatalf("numbers of the pentagon: %v, %d, %d", c, e, g)
		}
		p.Corners = append(p.Corners, api.Vec{X: x, Y: y})
	}
	return r, p
}

// kite returns a table over the field of the square root of 2 that is not convex.
func kite(t *testing.T) (*field.Real, api.Table) {
	f, e := field.Root(2)
	r := open(t, f, e)
	w := api.Num{C: []api.Int{nil, {1}}, D: []int{1}}
	p := api.Table{Field: f, Corners: []api.Vec{vec(0, 0), {X: field.Whole(3), Y: field.Whole(-1)}, {X: w, Y: field.Whole(0)}, {X: field.Whole(3), Y: w}}}
	return r, p
}

// bigOf returns the value of an integer.
func bigOf(x []int) *big.Int {
	z := new(big.Int)
	for _, e := range slices.Backward(x) {
		z.Mul(z, big.NewInt(100000000)).Add(z, big.NewInt(int64(e)))
	}
	return z
}

// rat returns the value of a number of the field of fractions.
func rat(x api.Num) *big.Rat {
	z := new(big.Rat)
	if len(x.C) > 0 {
		z.SetInt(bigOf(x.C[0]))
	}
	if d := bigOf(x.D); d.Sign() != 0 {
		z.Quo(z, new(big.Rat).SetInt(d))
	}
	return z
}

// numOf returns the normal form of a fraction, computed from its value alone.
func numOf(z *big.Rat) api.Num {
	list := func(n *big.Int) []int {
		var x []int
		rest, e := new(big.Int).Set(n), new(big.Int)
		for rest.Sign() != 0 {
			rest.QuoRem(rest, big.NewInt(100000000), e)
			x = append(x, int(e.Int64()))
		}
		return x
	}
	x := api.Num{D: list(z.Denom())}
	if z.Sign() != 0 {
		x.C = [][]int{list(z.Num())}
	}
	return x
}

// untidy returns numbers with the same values that are not in normal form.
func untidy(r *rand.Rand, x api.Num, poly []int) api.Num {
	f := []int{-3, 100000000, 7, -100000001}[r.Intn(4)]
	y := api.Num{D: append(field.Mul(x.D, field.Of(f)), 0)}
	for _, c := range x.C {
		c = field.Mul(c, field.Of(f))
		c = append(c, 1, -1) // -1 and then 100000000 of it: 0 in all
		c[len(c)-2] = 100000000
		y.C = append(y.C, c)
	}
	// A multiple of the polynomial has the value 0.
	for len(y.C) <= len(poly) {
		y.C = append(y.C, nil)
	}
	for i, c := range poly {
		y.C[i+1] = field.Add(y.C[i+1], field.Of(5*c))
	}
	return y
}

func untidyVec(r *rand.Rand, v api.Vec, poly []int) api.Vec {
	return api.Vec{X: untidy(r, v.X, poly), Y: untidy(r, v.Y, poly)}
}

func untidyTable(r *rand.Rand, p api.Table) api.Table {
	q := api.Table{Field: p.Field}
	for _, v := range p.Corners {
		q.Corners = append(q.Corners, untidyVec(r, v, p.Field.Poly))
	}
	return q
}

func untidyState(r *rand.Rand, s api.State, poly []int) api.State {
	return api.State{Side: s.Side, T: untidy(r, s.T, poly), Dir: untidyVec(r, s.Dir, poly)}
}

// randomPolygon returns a polygon with whole corners that grows from a triangle, mostly not convex.
func randomPolygon(r *rand.Rand, corners int) api.Table {
	p := polygon(0, 0, 9+r.Intn(3), r.Intn(3), r.Intn(4), 8+r.Intn(4))
	for range 100 {
		if len(p.Corners) >= corners {
			break
		}
		q := api.Table{Field: p.Field, Corners: slices.Insert(slices.Clone(p.Corners), 1+r.Intn(len(p.Corners)), vec(r.Intn(13)-1, r.Intn(13)-1))}
		if billiard.Check(q) == api.OK {
			p = q
		}
	}
	return p
}

// randomState returns a valid state of a table over the fractions.
func randomState(r *rand.Rand, p api.Table) api.State {
	for {
		d := 2 + r.Intn(40)
		s := state(r.Intn(len(p.Corners)), 1+r.Intn(d-1), d, r.Intn(21)-10, r.Intn(21)-10)
		if billiard.CheckState(p, s) == api.OK {
			return s
		}
	}
}
