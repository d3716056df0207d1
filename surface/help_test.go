package surface_test

import (
	"math/big"
	"math/rand"
	"slices"
	"testing"

	"flatland/api"
	"flatland/field"
	"flatland/surface"
)

// want checks a value that contains no lists.
func want[T comparable](t *testing.T, what string, a, b T) {
	t.Helper()
	if a != b {
		t.Errorf("%s: %v, want %v", what, a, b)
	}
}

// wantSame checks a value with lists and an error.
func wantSame[T any](t *testing.T, what string, same func(a, b T) bool, a T, e api.Errno, b T, f api.Errno) {
	t.Helper()
	if !same(a, b) || e != f {
		t.Errorf("%s: %v, %d, want %v, %d", what, a, e, b, f)
	}
}

// wantList checks a list and an error; nil and empty lists are the same.
func wantList[T comparable](t *testing.T, what string, a []T, e api.Errno, b []T, f api.Errno) {
	t.Helper()
	wantSame(t, what, slices.Equal, a, e, b, f)
}

// sameNum reports whether two numbers have the same elements; nil and empty lists are the same.
func sameNum(x, y api.Num) bool {
	return slices.EqualFunc(x.C, y.C, slices.Equal) && slices.Equal(x.D, y.D)
}

func sameVec(u, v api.Vec) bool { return sameNum(u.X, v.X) && sameNum(u.Y, v.Y) }

func sameVecs(a, b []api.Vec) bool { return slices.EqualFunc(a, b, sameVec) }

func sameField(f, g api.Field) bool {
	return slices.Equal(f.Poly, g.Poly) && f.Lo == g.Lo && f.Hi == g.Hi && f.Den == g.Den
}

func sameSurface(a, b api.Surface) bool {
	return sameField(a.Field, b.Field) && slices.EqualFunc(a.Faces, b.Faces, sameVecs) && slices.EqualFunc(a.Glue, b.Glue, slices.Equal)
}

func sameCrossing(a, b api.Crossing) bool {
	return a.At == b.At && sameNum(a.T, b.T) && sameVec(a.Dir, b.Dir)
}

func sameCrossings(a, b []api.Crossing) bool { return slices.EqualFunc(a, b, sameCrossing) }

func sameSegment(a, b api.Segment) bool {
	return a.From == b.From && a.To == b.To && sameVec(a.Vector, b.Vector)
}

func sameSegments(a, b []api.Segment) bool { return slices.EqualFunc(a, b, sameSegment) }

func sameState(a, b api.State) bool {
	return a.Side == b.Side && sameNum(a.T, b.T) && sameVec(a.Dir, b.Dir)
}

func slot(f, e int) api.Slot { return api.Slot{Face: f, Edge: e} }

// ratio returns a fraction.
func ratio(a, b int) api.Num {
	x, _ := field.Ratio(a, b)
	return x
}

// vec returns a vector of whole numbers.
func vec(x, y int) api.Vec { return api.Vec{X: field.Whole(x), Y: field.Whole(y)} }

// mat returns a matrix of whole numbers.
func mat(a, b, c, d int) api.Mat {
	return api.Mat{A: field.Whole(a), B: field.Whole(b), C: field.Whole(c), D: field.Whole(d)}
}

// face returns a face with the whole edges x, y, x, y, ..
func face(at ...int) []api.Vec {
	var l []api.Vec
	for p := range slices.Chunk(at, 2) {
		l = append(l, vec(p[0], p[1]))
	}
	return l
}

// partners returns the slots face, edge, face, edge, ..
func partners(at ...int) []api.Slot {
	var l []api.Slot
	for p := range slices.Chunk(at, 2) {
		l = append(l, slot(p[0], p[1]))
	}
	return l
}

// crossing returns a crossing in a whole direction.
func crossing(at api.Slot, a, b, x, y int) api.Crossing {
	return api.Crossing{At: at, T: ratio(a, b), Dir: vec(x, y)}
}

// torus, ell and cutTorus are the surfaces of the chapter's examples.
func torus() api.Surface {
	return api.Surface{Field: field.Rational(), Faces: [][]api.Vec{face(1, 0, 0, 1, -1, 0, 0, -1)}, Glue: [][]api.Slot{partners(0, 2, 0, 3, 0, 0, 0, 1)}}
}

func ell() api.Surface {
	return api.Surface{
		Field: field.Rational(),
		Faces: [][]api.Vec{face(1, 0, 1, 0, 0, 1, -1, 0, 0, 1, -1, 0, 0, -1, 0, -1)},
		Glue:  [][]api.Slot{partners(0, 5, 0, 3, 0, 7, 0, 1, 0, 6, 0, 0, 0, 4, 0, 2)},
	}
}

func cutTorus() api.Surface {
	return api.Surface{
		Field: field.Rational(),
		Faces: [][]api.Vec{face(-1, 0, 0, -1, 1, 1), face(1, 0, 0, 1, -1, -1)},
		Glue:  [][]api.Slot{partners(1, 0, 1, 1, 1, 2), partners(0, 0, 0, 1, 0, 2)},
	}
}

// both returns the surface of two surfaces over one field: it has more than one component.
func both(a, b api.Surface) api.Surface {
	s := deep(a)
	n := len(s.Faces)
	for f, l := range deep(b).Glue {
		for e := range l {
			l[e].Face += n
		}
		s.Faces = append(s.Faces, b.Faces[f])
		s.Glue = append(s.Glue, l)
	}
	return s
}

// squares is the surface of unit squares: right and up are the neighbours of each one.
func squares(right, up []int) api.Surface {
	s := api.Surface{Field: field.Rational()}
	for x := range right {
		s.Faces = append(s.Faces, torus().Faces[0])
		s.Glue = append(s.Glue, partners(slices.Index(up, x), 2, right[x], 3, up[x], 0, slices.Index(right, x), 1))
	}
	return s
}

// connected returns a random surface of n squares with one component.
func connected(r *rand.Rand, n int) (right, up []int) {
	for {
		right, up = r.Perm(n), r.Perm(n)
		c, _ := surface.Components(squares(right, up))
		if slices.Max(c) == 0 {
			return right, up
		}
	}
}

// renamed returns the same surface with its faces and edges in another order, and the match to it.
func renamed(r *rand.Rand, s api.Surface) (api.Surface, []api.Slot) {
	m := make([]api.Slot, len(s.Faces))
	for f, g := range r.Perm(len(s.Faces)) {
		m[f] = slot(g, r.Intn(len(s.Faces[f])))
	}
	image := func(at api.Slot) api.Slot {
		return slot(m[at.Face].Face, (m[at.Face].Edge+at.Edge)%len(s.Faces[at.Face]))
	}
	x := api.Surface{Field: s.Field, Faces: make([][]api.Vec, len(s.Faces)), Glue: make([][]api.Slot, len(s.Faces))}
	for f, l := range s.Faces {
		g := m[f].Face
		x.Faces[g], x.Glue[g] = make([]api.Vec, len(l)), make([]api.Slot, len(l))
		for e, v := range l {
			k := image(slot(f, e)).Edge
			x.Faces[g][k], x.Glue[g][k] = v, image(s.Glue[f][e])
		}
	}
	return x, m
}

// jumbled returns the same surface, with faces that were cut, joined and renamed.
func jumbled(r *rand.Rand, s api.Surface, steps int) api.Surface {
	for range steps {
		f := r.Intn(len(s.Faces))
		n := len(s.Faces[f])
		x, e := surface.Join(s, slot(f, r.Intn(n)))
		if r.Intn(3) == 0 {
			x, e = surface.Cut(s, slot(f, r.Intn(n)), slot(f, r.Intn(n)))
		}
		if e == api.OK {
			s = x
		}
	}
	s, _ = renamed(r, s)
	return s
}

// sizes returns a size for each element of a permutation, the same one for those of a cycle.
func sizes(r *rand.Rand, p []int) []int {
	l := make([]int, len(p))
	for x := range p {
		n := 1 + r.Intn(3)
		for y := x; l[y] == 0; y = p[y] {
			l[y] = n
		}
	}
	return l
}

// rectangles is the surface of rectangles with these neighbours: those above each other have one width, those beside each other one height.
func rectangles(r *rand.Rand, right, up []int) api.Surface {
	s := squares(right, up)
	width, height := sizes(r, up), sizes(r, right)
	for x := range right {
		s.Faces[x] = face(width[x], 0, 0, height[x], -width[x], 0, 0, -height[x])
	}
	return s
}

// randomFace returns n random edges that close up, mostly not those of a right face.
func randomFace(r *rand.Rand, n int) []api.Vec {
	var edges []api.Vec
	x, y := 0, 0
	for range n - 1 {
		a, b := r.Intn(7)-3, r.Intn(7)-3
		edges = append(edges, vec(a, b))
		x, y = x-a, y-b
	}
	return append(edges, vec(x, y))
}

// alone returns the surface of a face and the same one turned by half a turn, each edge glued to its image: it is a surface just if the face is right.
func alone(edges []api.Vec) api.Surface {
	s := api.Surface{Field: field.Rational(), Faces: [][]api.Vec{edges, nil}, Glue: make([][]api.Slot, 2)}
	for i, v := range edges {
		s.Faces[1] = append(s.Faces[1], api.Vec{X: numOf(sub(whole(0), rat(v.X))), Y: numOf(sub(whole(0), rat(v.Y)))})
		s.Glue[0] = append(s.Glue[0], slot(1, i))
		s.Glue[1] = append(s.Glue[1], slot(0, i))
	}
	return s
}

// random returns a random surface over the fractions with one component and whole edges, mostly with faces that are not convex.
func random(r *rand.Rand, n int) api.Surface {
	right, up := connected(r, n)
	s := squares(right, up)
	switch r.Intn(3) {
	case 0:
		s = rectangles(r, right, up)
	case 1:
		edges := randomFace(r, 3+n%5)
		for !isRight(edges) {
			edges = randomFace(r, 3+n%5)
		}
		return jumbled(r, alone(edges), n)
	}
	s = jumbled(r, s, 4*n)
	s, _ = surface.Apply(s, mat(1+r.Intn(2), r.Intn(3)-1, 0, 1+r.Intn(3)))
	s, _ = surface.Apply(s, mat(1, 0, r.Intn(5)-2, 1))
	return s
}

// slots returns all slots of a surface.
func slots(s api.Surface) []api.Slot {
	var l []api.Slot
	for f, edges := range s.Faces {
		for e := range edges {
			l = append(l, slot(f, e))
		}
	}
	return l
}

// badSlots are slots that no surface of the tests has.
func badSlots() []api.Slot {
	const most = int(^uint(0) >> 1)
	return []api.Slot{slot(-1, 0), slot(0, -1), slot(0, 24), slot(600, 0), slot(-most-1, most), slot(most, -most-1), slot(0, most), slot(most, 0)}
}

// open opens a field.
func open(t *testing.T, f api.Field, e api.Errno) *field.Real {
	t.Helper()
	r, g := field.Open(f)
	if e != api.OK || g != api.OK {
		t.Fatalf("Open of %v: %d, %d", f, e, g)
	}
	return r
}

// parsed returns a vector with the texts x and y.
func parsed(t *testing.T, r *field.Real, x, y string) api.Vec {
	t.Helper()
	a, e := r.Parse(x)
	b, g := r.Parse(y)
	if e != api.OK || g != api.OK {
		t.Fatalf("%s, %s: %d, %d", x, y, e, g)
	}
	return api.Vec{X: a, Y: b}
}

// octagon is the regular octagon with sides of length 2, opposite ones glued, over the field of the square root of 2: one vertex of angle 3.
func octagon(t *testing.T) (*field.Real, api.Surface) {
	f, e := field.Root(2)
	r := open(t, f, e)
	s := api.Surface{Field: f, Faces: [][]api.Vec{nil}, Glue: [][]api.Slot{nil}}
	for i, v := range [][2]string{{"2", "0"}, {"0,1", "0,1"}, {"0", "2"}, {"0,-1", "0,1"}, {"-2", "0"}, {"0,-1", "0,-1"}, {"0", "-2"}, {"0,1", "0,-1"}} {
		s.Faces[0] = append(s.Faces[0], parsed(t, r, v[0], v[1]))
		s.Glue[0] = append(s.Glue[0], slot(0, (i+4)%8))
	}
	return r, s
}

// pentagons is two regular pentagons, parallel sides glued, over a field of degree 4 (w = 2 cos 18): one vertex of angle 3.
func pentagons(t *testing.T) (*field.Real, api.Surface) {
	f, e := field.Cosine(10)
	r := open(t, f, e)
	corners := [][2]string{{"1", "0"}, {"-3,0,1/2", "0,1/2"}, {"2,0,-1/2", "0,-3,0,1/2"}, {"2,0,-1/2", "0,3,0,-1/2"}, {"-3,0,1/2", "0,-1/2"}}
	s := api.Surface{Field: f, Faces: make([][]api.Vec, 2), Glue: make([][]api.Slot, 2)}
	for i, c := range corners {
		d := corners[(i+1)%5]
		v := r.Sum(parsed(t, r, d[0], d[1]), r.Times(field.Whole(-1), parsed(t, r, c[0], c[1])))
		for k := range 2 {
			s.Faces[k] = append(s.Faces[k], r.Times(field.Whole(1-2*k), v))
			s.Glue[k] = append(s.Glue[k], slot(1-k, i))
		}
	}
	return r, s
}

// bigOf returns the value of an integer.
func bigOf(x []int) *big.Int {
	z := new(big.Int)
	for _, e := range slices.Backward(x) {
		z.Mul(z, big.NewInt(100000000)).Add(z, big.NewInt(int64(e)))
	}
	return z
}

// rat returns the value of a number of the field of fractions.
func rat(x api.Num) *big.Rat {
	z := new(big.Rat)
	if len(x.C) > 0 {
		z.SetInt(bigOf(x.C[0]))
	}
	if d := bigOf(x.D); d.Sign() != 0 {
		z.Quo(z, new(big.Rat).SetInt(d))
	}
	return z
}

// numOf returns the normal form of a fraction, computed from its value alone.
func numOf(z *big.Rat) api.Num {
	list := func(n *big.Int) []int {
		var x []int
		rest, e := new(big.Int).Set(n), new(big.Int)
		for rest.Sign() != 0 {
			rest.QuoRem(rest, big.NewInt(100000000), e)
			x = append(x, int(e.Int64()))
		}
		return x
	}
	x := api.Num{D: list(z.Denom())}
	if z.Sign() != 0 {
		x.C = [][]int{list(z.Num())}
	}
	return x
}

// untidy returns a number with the same value that is not in normal form.
func untidy(r *rand.Rand, x api.Num, poly []int) api.Num {
	f := []int{-3, 100000000, 7, -100000001}[r.Intn(4)]
	y := api.Num{D: append(field.Mul(x.D, field.Of(f)), 0)}
	for _, c := range x.C {
		c = append(field.Mul(c, field.Of(f)), 100000000, -1) // 0 in all
		y.C = append(y.C, c)
	}
	for len(y.C) <= len(poly) {
		y.C = append(y.C, nil)
	}
	// A multiple of the polynomial has the value 0.
	for i, c := range poly {
		y.C[i+1] = field.Add(y.C[i+1], field.Of(5*c))
	}
	return y
}

func untidyVec(r *rand.Rand, v api.Vec, poly []int) api.Vec {
	return api.Vec{X: untidy(r, v.X, poly), Y: untidy(r, v.Y, poly)}
}

func untidySurface(r *rand.Rand, s api.Surface) api.Surface {
	s = deep(s)
	for _, edges := range s.Faces {
		for i, v := range edges {
			edges[i] = untidyVec(r, v, s.Field.Poly)
		}
	}
	return s
}

func untidyCrossing(r *rand.Rand, c api.Crossing, poly []int) api.Crossing {
	return api.Crossing{At: c.At, T: untidy(r, c.T, poly), Dir: untidyVec(r, c.Dir, poly)}
}
