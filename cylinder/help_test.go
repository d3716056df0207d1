package cylinder_test

import (
	"math/big"
	"math/rand"
	"slices"
	"testing"

	"flatland/api"
	"flatland/field"
	"flatland/surface"
)

// want checks a value that contains no lists.
func want[T comparable](t *testing.T, what string, a, b T) {
	t.Helper()
	if a != b {
		t.Errorf("%s: %v, want %v", what, a, b)
	}
}

// wantSame checks a value with lists and an error.
func wantSame[T any](t *testing.T, what string, same func(a, b T) bool, a T, e api.Errno, b T, f api.Errno) {
	t.Helper()
	if !same(a, b) || e != f {
		t.Errorf("%s: %v, %d, want %v, %d", what, a, e, b, f)
	}
}

// wantList checks a list and an error; nil and empty lists are the same.
func wantList[T comparable](t *testing.T, what string, a []T, e api.Errno, b []T, f api.Errno) {
	t.Helper()
	wantSame(t, what, slices.Equal, a, e, b, f)
}

// The same values are those with the same elements; nil and empty lists are the same.

func sameNum(x, y api.Num) bool {
	return slices.EqualFunc(x.C, y.C, slices.Equal) && slices.Equal(x.D, y.D)
}

func sameNums(a, b []api.Num) bool { return slices.EqualFunc(a, b, sameNum) }

func sameVec(u, v api.Vec) bool { return sameNum(u.X, v.X) && sameNum(u.Y, v.Y) }

func sameVecs(a, b []api.Vec) bool { return slices.EqualFunc(a, b, sameVec) }

func sameSurface(a, b api.Surface) bool {
	return slices.Equal(a.Field.Poly, b.Field.Poly) && a.Field.Lo == b.Field.Lo && a.Field.Hi == b.Field.Hi && a.Field.Den == b.Field.Den && slices.EqualFunc(a.Faces, b.Faces, sameVecs) && slices.EqualFunc(a.Glue, b.Glue, slices.Equal)
}

func sameRay(a, b api.Ray) bool {
	return a.From == b.From && a.To == b.To && sameNum(a.T, b.T) && a.Open == b.Open
}

func sameRays(a, b []api.Ray) bool { return slices.EqualFunc(a, b, sameRay) }

func sameCylinder(a, b api.Cylinder) bool {
	return slices.Equal(a.Below, b.Below) && slices.Equal(a.Above, b.Above) && sameNum(a.T, b.T) && sameNum(a.Height, b.Height) && sameNum(a.Twist, b.Twist)
}

func sameDecomposition(a, b api.Decomposition) bool {
	return sameRays(a.Rays, b.Rays) && slices.EqualFunc(a.Cylinders, b.Cylinders, sameCylinder) && sameNum(a.Rest, b.Rest)
}

func samePosition(a, b api.Position) bool {
	return a.Cylinder == b.Cylinder && sameNum(a.U, b.U) && sameNum(a.V, b.V)
}

func sameShear(a, b api.Shear) bool {
	return sameNum(a.Tau, b.Tau) && slices.Equal(a.Times, b.Times) && sameNums([]api.Num{a.M.A, a.M.B, a.M.C, a.M.D}, []api.Num{b.M.A, b.M.B, b.M.C, b.M.D})
}

func slot(f, e int) api.Slot { return api.Slot{Face: f, Edge: e} }

// ratio returns a fraction.
func ratio(a, b int) api.Num {
	x, _ := field.Ratio(a, b)
	return x
}

// vec returns a vector of whole numbers.
func vec(x, y int) api.Vec { return api.Vec{X: field.Whole(x), Y: field.Whole(y)} }

// mat returns a matrix of whole numbers.
func mat(a, b, c, d int) api.Mat {
	return api.Mat{A: field.Whole(a), B: field.Whole(b), C: field.Whole(c), D: field.Whole(d)}
}

// face returns a face with the whole edges x, y, x, y, ..
func face(at ...int) []api.Vec {
	var l []api.Vec
	for p := range slices.Chunk(at, 2) {
		l = append(l, vec(p[0], p[1]))
	}
	return l
}

// partners returns the slots face, edge, face, edge, ..
func partners(at ...int) []api.Slot {
	var l []api.Slot
	for p := range slices.Chunk(at, 2) {
		l = append(l, slot(p[0], p[1]))
	}
	return l
}

// spot returns a place of a face.
func spot(f, a, b, c, d int) api.Spot {
	return api.Spot{Face: f, At: api.Vec{X: ratio(a, b), Y: ratio(c, d)}}
}

// closed returns a closed ray between edges number 0 and 2, as squares have them.
func closed(from, to, t int) api.Ray {
	return api.Ray{From: slot(from, 0), To: slot(to, 2), T: field.Whole(t)}
}

// parallelogram is the torus with the sides (a, b) and (c, d).
func parallelogram(a, b, c, d int) api.Surface {
	return api.Surface{Field: field.Rational(), Faces: [][]api.Vec{face(a, b, c, d, -a, -b, -c, -d)}, Glue: [][]api.Slot{partners(0, 2, 0, 3, 0, 0, 0, 1)}}
}

// torus and ell are the surfaces of the chapter's examples.
func torus() api.Surface { return parallelogram(1, 0, 0, 1) }

func ell() api.Surface { return squares([]int{1, 0, 2}, []int{2, 1, 0}) }

// steps is a surface with two cylinders in the direction (1, 0): from the rays of face 0, of length 1 and 1, up to that of face 1, of length 2, and from this one up to those of face 0.
func steps() api.Surface {
	return api.Surface{
		Field: field.Rational(),
		Faces: [][]api.Vec{face(1, 0, 1, 0, 0, 1, -2, 0, 0, -1), face(2, 0, 0, 1, -1, 0, -1, 0, 0, -1)},
		Glue:  [][]api.Slot{partners(1, 2, 1, 3, 0, 4, 1, 0, 0, 2), partners(0, 3, 1, 4, 0, 0, 0, 1, 1, 1)},
	}
}

// both returns the surface of two surfaces over one field: it has more than one component.
func both(a, b api.Surface) api.Surface {
	s := deep(a)
	n := len(s.Faces)
	for f, l := range deep(b).Glue {
		for e := range l {
			l[e].Face += n
		}
		s.Faces = append(s.Faces, b.Faces[f])
		s.Glue = append(s.Glue, l)
	}
	return s
}

// squares is the surface of unit squares: right and up are the neighbours of each one.
func squares(right, up []int) api.Surface {
	s := api.Surface{Field: field.Rational()}
	for x := range right {
		s.Faces = append(s.Faces, torus().Faces[0])
		s.Glue = append(s.Glue, partners(slices.Index(up, x), 2, right[x], 3, up[x], 0, slices.Index(right, x), 1))
	}
	return s
}

// row is a row of unit squares, each one with itself above.
func row(n int) api.Surface {
	right, up := make([]int, n), make([]int, n)
	for i := range right {
		right[i], up[i] = (i+1)%n, i
	}
	return squares(right, up)
}

// connected returns a random surface of n squares with one component.
func connected(r *rand.Rand, n int) (right, up []int) {
	for {
		right, up = r.Perm(n), r.Perm(n)
		c, _ := surface.Components(squares(right, up))
		if slices.Max(c) == 0 {
			return right, up
		}
	}
}

// renamed returns the same surface with its faces and edges in another order.
func renamed(r *rand.Rand, s api.Surface) api.Surface {
	m := make([]api.Slot, len(s.Faces))
	for f, g := range r.Perm(len(s.Faces)) {
		m[f] = slot(g, r.Intn(len(s.Faces[f])))
	}
	image := func(at api.Slot) api.Slot {
		return slot(m[at.Face].Face, (m[at.Face].Edge+at.Edge)%len(s.Faces[at.Face]))
	}
	x := api.Surface{Field: s.Field, Faces: make([][]api.Vec, len(s.Faces)), Glue: make([][]api.Slot, len(s.Faces))}
	for f, l := range s.Faces {
		g := m[f].Face
		x.Faces[g], x.Glue[g] = make([]api.Vec, len(l)), make([]api.Slot, len(l))
		for e, v := range l {
			k := image(slot(f, e)).Edge
			x.Faces[g][k], x.Glue[g][k] = v, image(s.Glue[f][e])
		}
	}
	return x
}

// jumbled returns the same surface, with faces that were cut, joined and renamed.
func jumbled(r *rand.Rand, s api.Surface, steps int) api.Surface {
	for range steps {
		f := r.Intn(len(s.Faces))
		n := len(s.Faces[f])
		x, e := surface.Join(s, slot(f, r.Intn(n)))
		if r.Intn(3) == 0 {
			x, e = surface.Cut(s, slot(f, r.Intn(n)), slot(f, r.Intn(n)))
		}
		if e == api.OK {
			s = x
		}
	}
	return renamed(r, s)
}

// sizes returns a size for each element of a permutation, the same one for those of a cycle.
func sizes(r *rand.Rand, p []int) []int {
	l := make([]int, len(p))
	for x := range p {
		n := 1 + r.Intn(3)
		for y := x; l[y] == 0; y = p[y] {
			l[y] = n
		}
	}
	return l
}

// random returns a random surface over the fractions, mostly of rectangles, with faces that are not convex; some have two components.
func random(r *rand.Rand, n int) api.Surface {
	right, up := connected(r, n)
	s := squares(right, up)
	if r.Intn(3) > 0 {
		width, height := sizes(r, up), sizes(r, right)
		for x := range right {
			s.Faces[x] = face(width[x], 0, 0, height[x], -width[x], 0, 0, -height[x])
		}
	}
	s = jumbled(r, s, 4*n)
	if r.Intn(3) > 0 {
		s, _ = surface.Apply(s, mat(1+r.Intn(2), r.Intn(3)-1, 0, 1+r.Intn(3)))
		s, _ = surface.Apply(s, mat(1, 0, r.Intn(5)-2, 1))
	}
	if n > 2 && r.Intn(8) == 0 {
		s = both(s, random(r, n/2))
	}
	return s
}

// direction returns a random direction, often one of the edges.
func direction(r *rand.Rand, s api.Surface) api.Vec {
	if r.Intn(2) == 0 {
		l := s.Faces[r.Intn(len(s.Faces))]
		return l[r.Intn(len(l))]
	}
	for {
		if x, y := r.Intn(9)-4, r.Intn(9)-4; x != 0 || y != 0 {
			return vec(x, y)
		}
	}
}

// slots returns all slots of a surface.
func slots(s api.Surface) []api.Slot {
	var l []api.Slot
	for f, edges := range s.Faces {
		for e := range edges {
			l = append(l, slot(f, e))
		}
	}
	return l
}

// badSlots are slots that no surface of the tests has.
func badSlots() []api.Slot {
	const most = int(^uint(0) >> 1)
	return []api.Slot{slot(-1, 0), slot(0, -1), slot(0, 24), slot(600, 0), slot(-most-1, most), slot(most, -most-1), slot(0, most), slot(most, 0)}
}

// open opens a field.
func open(t *testing.T, f api.Field, e api.Errno) *field.Real {
	t.Helper()
	r, g := field.Open(f)
	if e != api.OK || g != api.OK {
		t.Fatalf("Open of %v: %d, %d", f, e, g)
	}
	return r
}

// parsed returns a vector with the texts x and y.
func parsed(t *testing.T, r *field.Real, x, y string) api.Vec {
	t.Helper()
	return api.Vec{X: number(t, r, x), Y: number(t, r, y)}
}

// number returns the number with a text.
func number(t *testing.T, r *field.Real, text string) api.Num {
	t.Helper()
	x, e := r.Parse(text)
	if e != api.OK {
		t.Fatalf("%s: %d", text, e)
	}
	return x
}

// octagon is the regular octagon with sides of length 2, opposite ones glued, over the field of the square root of 2.
func octagon(t *testing.T) (*field.Real, api.Surface) {
	f, e := field.Root(2)
	r := open(t, f, e)
	s := api.Surface{Field: f, Faces: [][]api.Vec{nil}, Glue: [][]api.Slot{nil}}
	for i, v := range [][2]string{{"2", "0"}, {"0,1", "0,1"}, {"0", "2"}, {"0,-1", "0,1"}, {"-2", "0"}, {"0,-1", "0,-1"}, {"0", "-2"}, {"0,1", "0,-1"}} {
		s.Faces[0] = append(s.Faces[0], parsed(t, r, v[0], v[1]))
		s.Glue[0] = append(s.Glue[0], slot(0, (i+4)%8))
	}
	return r, s
}

// pentagons is two regular pentagons, parallel sides glued, over a field of degree 4 (w = 2 cos 18).
func pentagons(t *testing.T) (*field.Real, api.Surface) {
	f, e := field.Cosine(10)
	r := open(t, f, e)
	corners := [][2]string{{"1", "0"}, {"-3,0,1/2", "0,1/2"}, {"2,0,-1/2", "0,-3,0,1/2"}, {"2,0,-1/2", "0,3,0,-1/2"}, {"-3,0,1/2", "0,-1/2"}}
	s := api.Surface{Field: f, Faces: make([][]api.Vec, 2), Glue: make([][]api.Slot, 2)}
	for i, c := range corners {
		d := corners[(i+1)%5]
		v := r.Sum(parsed(t, r, d[0], d[1]), r.Times(field.Whole(-1), parsed(t, r, c[0], c[1])))
		for k := range 2 {
			s.Faces[k] = append(s.Faces[k], r.Times(field.Whole(1-2*k), v))
			s.Glue[k] = append(s.Glue[k], slot(1-k, i))
		}
	}
	return r, s
}

// skewed is an L over the field of the square root of 5: in the direction (1, 0) its cylinders have the circumferences w + 1 and w, and the heights 1 and w.
func skewed(t *testing.T) (*field.Real, api.Surface) {
	f, e := field.Root(5)
	r := open(t, f, e)
	s := ell()
	s.Field = f
	// The widths are w and 1, the heights 1 and w.
	wide := api.Mat{A: number(t, r, "0,1"), D: field.Whole(1)}
	high := api.Mat{A: number(t, r, "0,1"), D: number(t, r, "0,1")}
	for i, v := range s.Faces[0] {
		s.Faces[0][i] = r.Apply(wide, v)
	}
	for i, v := range s.Faces[2] {
		s.Faces[2][i] = r.Apply(high, v)
	}
	return r, s
}

// endless is the L over the field of the square root of 2, and a direction in which none of its rays ends.
func endless(t *testing.T) (api.Surface, api.Vec) {
	f, e := field.Root(2)
	s := ell()
	s.Field = f
	return s, parsed(t, open(t, f, e), "1", "0,1")
}

// bigOf returns the value of an integer.
func bigOf(x []int) *big.Int {
	z := new(big.Int)
	for _, e := range slices.Backward(x) {
		z.Mul(z, big.NewInt(100000000)).Add(z, big.NewInt(int64(e)))
	}
	return z
}

// rat returns the value of a number of the field of fractions.
func rat(x api.Num) *big.Rat {
	z := new(big.Rat)
	if len(x.C) > 0 {
		z.SetInt(bigOf(x.C[0]))
	}
	if d := bigOf(x.D); d.Sign() != 0 {
		z.Quo(z, new(big.Rat).SetInt(d))
	}
	return z
}

// numOf returns the normal form of a fraction, computed from its value alone.
func numOf(z *big.Rat) api.Num {
	list := func(n *big.Int) []int {
		var x []int
		rest, e := new(big.Int).Set(n), new(big.Int)
		for rest.Sign() != 0 {
			rest.QuoRem(rest, big.NewInt(100000000), e)
			x = append(x, int(e.Int64()))
		}
		return x
	}
	x := api.Num{D: list(z.Denom())}
	if z.Sign() != 0 {
		x.C = [][]int{list(z.Num())}
	}
	return x
}

// untidy returns a number with the same value that is not in normal form.
func untidy(r *rand.Rand, x api.Num, poly []int) api.Num {
	f := []int{-3, 100000000, 7, -100000001}[r.Intn(4)]
	d := x.D
	if len(d) == 0 {
		d = []int{1}
	}
	y := api.Num{D: append(field.Mul(d, field.Of(f)), 0)}
	for _, c := range x.C {
		c = append(field.Mul(c, field.Of(f)), 100000000, -1) // 0 in all
		y.C = append(y.C, c)
	}
	for len(y.C) <= len(poly) {
		y.C = append(y.C, nil)
	}
	// A multiple of the polynomial has the value 0.
	for i, c := range poly {
		y.C[i+1] = field.Add(y.C[i+1], field.Of(5*c))
	}
	return y
}

func untidyVec(r *rand.Rand, v api.Vec, poly []int) api.Vec {
	return api.Vec{X: untidy(r, v.X, poly), Y: untidy(r, v.Y, poly)}
}

func untidySurface(r *rand.Rand, s api.Surface) api.Surface {
	s = deep(s)
	for _, edges := range s.Faces {
		for i, v := range edges {
			edges[i] = untidyVec(r, v, s.Field.Poly)
		}
	}
	return s
}

func untidyRays(r *rand.Rand, l []api.Ray, poly []int) []api.Ray {
	l = deep(l)
	for i := range l {
		l[i].T = untidy(r, l[i].T, poly)
	}
	return l
}

func untidyDecomposition(r *rand.Rand, x api.Decomposition, poly []int) api.Decomposition {
	x = deep(x)
	x.Rays = untidyRays(r, x.Rays, poly)
	for i, c := range x.Cylinders {
		x.Cylinders[i].T, x.Cylinders[i].Height, x.Cylinders[i].Twist = untidy(r, c.T, poly), untidy(r, c.Height, poly), untidy(r, c.Twist, poly)
	}
	x.Rest = untidy(r, x.Rest, poly)
	return x
}
