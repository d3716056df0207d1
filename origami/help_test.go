package origami_test

import (
	"math/rand"
	"slices"
	"testing"

	"flatland/api"
	"flatland/field"
	"flatland/origami"
)

// want checks a value that contains no lists.
func want[T comparable](t *testing.T, what string, a, b T) {
	t.Helper()
	if a != b {
		t.Errorf("%s: %v, want %v", what, a, b)
	}
}

// wantSame checks a value with lists and an error.
func wantSame[T any](t *testing.T, what string, same func(a, b T) bool, a T, e api.Errno, b T, f api.Errno) {
	t.Helper()
	if !same(a, b) || e != f {
		t.Errorf("%s: %v, %d, want %v, %d", what, a, e, b, f)
	}
}

// wantList checks a list and an error; nil and empty lists are the same.
func wantList[T comparable](t *testing.T, what string, a []T, e api.Errno, b []T, f api.Errno) {
	t.Helper()
	wantSame(t, what, slices.Equal, a, e, b, f)
}

// wantLists checks a list of lists and an error.
func wantLists(t *testing.T, what string, a [][]int, e api.Errno, b [][]int, f api.Errno) {
	t.Helper()
	wantSame(t, what, sameLists, a, e, b, f)
}

// wantOrigami checks an origami and an error.
func wantOrigami(t *testing.T, what string, a api.Origami, e api.Errno, b api.Origami, f api.Errno) {
	t.Helper()
	wantSame(t, what, sameOrigami, a, e, b, f)
}

// The same values are those with the same elements; nil and empty lists are the same.

func sameLists(a, b [][]int) bool { return slices.EqualFunc(a, b, slices.Equal) }

func sameOrigami(a, b api.Origami) bool {
	return slices.Equal(a.Right, b.Right) && slices.Equal(a.Up, b.Up)
}

func sameBands(a, b []api.Band) bool {
	return slices.EqualFunc(a, b, func(x, y api.Band) bool {
		return x.Width == y.Width && x.Height == y.Height && sameLists(x.Rows, y.Rows)
	})
}

func sameNum(x, y api.Num) bool {
	return slices.EqualFunc(x.C, y.C, slices.Equal) && slices.Equal(x.D, y.D)
}

func sameSurface(a, b api.Surface) bool {
	sameVec := func(u, v api.Vec) bool { return sameNum(u.X, v.X) && sameNum(u.Y, v.Y) }
	sameVecs := func(a, b []api.Vec) bool { return slices.EqualFunc(a, b, sameVec) }
	return slices.Equal(a.Field.Poly, b.Field.Poly) && a.Field.Lo == b.Field.Lo && a.Field.Hi == b.Field.Hi && a.Field.Den == b.Field.Den &&
		slices.EqualFunc(a.Faces, b.Faces, sameVecs) && slices.EqualFunc(a.Glue, b.Glue, slices.Equal)
}

// pair is an origami with a list that belongs to it.
type pair struct {
	o api.Origami
	l []int
}

func samePair(a, b pair) bool { return sameOrigami(a.o, b.o) && slices.Equal(a.l, b.l) }

// squares returns the origami with these neighbours.
func squares(right, up []int) api.Origami { return api.Origami{Right: right, Up: up} }

// ell, torus and twoWide are the origamis of the chapter's examples.
func ell() api.Origami { return squares([]int{1, 0, 2}, []int{2, 1, 0}) }

func torus() api.Origami { return squares([]int{0}, []int{0}) }

func twoWide() api.Origami { return squares([]int{1, 0}, []int{0, 1}) }

// identity returns 0, .., n - 1.
func identity(n int) []int {
	var l []int
	for i := range n {
		l = append(l, i)
	}
	return l
}

// grid is the torus of rows of a squares, c of them above each other; above the last row the squares of the first one come b squares later.
func grid(a, b, c int) api.Origami {
	o := squares(make([]int, a*c), make([]int, a*c))
	for y := range c {
		for x := range a {
			o.Right[y*a+x] = y*a + (x+1)%a
			if y < c-1 {
				o.Up[y*a+x] = (y+1)*a + x
			} else {
				// The place (x, c) is that of (x - b, 0).
				o.Up[y*a+x] = ((x-b)%a + a) % a
			}
		}
	}
	return o
}

// permutations returns all orders of 0, .., n - 1.
func permutations(n int) [][]int {
	if n == 0 {
		return [][]int{nil}
	}
	var all [][]int
	for _, p := range permutations(n - 1) {
		for i := range n {
			all = append(all, slices.Insert(slices.Clone(p), i, n-1))
		}
	}
	return all
}

// allOrigamis returns all origamis of n squares.
func allOrigamis(n int) []api.Origami {
	var all []api.Origami
	for _, right := range permutations(n) {
		for _, up := range permutations(n) {
			all = append(all, squares(right, up))
		}
	}
	return all
}

// small returns all origamis of at most n squares.
func small(n int) []api.Origami {
	var all []api.Origami
	for k := range n {
		all = append(all, allOrigamis(k+1)...)
	}
	return all
}

// connected returns those of some origamis that are connected.
func connected(list []api.Origami) []api.Origami {
	return slices.DeleteFunc(list, func(o api.Origami) bool { return len(parts(o)) > 1 })
}

// renumbered returns the origami that is renumbered by f.
func renumbered(o api.Origami, f []int) api.Origami {
	x := squares(make([]int, len(f)), make([]int, len(f)))
	for i, y := range f {
		x.Right[y], x.Up[y] = f[o.Right[i]], f[o.Up[i]]
	}
	return x
}

// beside returns the origami of two others, which are parts of it.
func beside(a, b api.Origami) api.Origami {
	o := squares(slices.Clone(a.Right), slices.Clone(a.Up))
	for i := range b.Right {
		o.Right = append(o.Right, b.Right[i]+len(a.Right))
		o.Up = append(o.Up, b.Up[i]+len(a.Right))
	}
	return o
}

// divided returns the origami in which each square is divided into w times h squares: square x becomes those from x w h on, row by row.
func divided(o api.Origami, w, h int) api.Origami {
	d := squares(nil, nil)
	for x := range o.Right {
		for i := range w * h {
			right, up := x*w*h+i+1, x*w*h+i+w
			if i%w == w-1 {
				right = o.Right[x]*w*h + i - w + 1
			}
			if i/w == h-1 {
				up = o.Up[x]*w*h + i%w
			}
			d.Right, d.Up = append(d.Right, right), append(d.Up, up)
		}
	}
	return d
}

// random returns a random origami of n squares, sometimes with more than one component, with squares that were divided or with large bands.
func random(r *rand.Rand, n int) api.Origami {
	o := squares(r.Perm(n), r.Perm(n))
	switch r.Intn(4) {
	case 0:
		// Few rows and few changes of a torus.
		o = grid(n, r.Intn(n), 1)
		for range 1 + r.Intn(3) {
			i, j := r.Intn(n), r.Intn(n)
			o.Up[i], o.Up[j] = o.Up[j], o.Up[i]
		}
	case 1:
		w, h := 1+r.Intn(3), 1+r.Intn(3)
		k := max(1, n/w/h)
		o = divided(squares(r.Perm(k), r.Perm(k)), w, h)
	case 2:
		k := 1 + r.Intn(n)
		a := 1 + r.Intn(3)
		o = beside(squares(r.Perm(k), r.Perm(k)), grid(a, r.Intn(a), 1+r.Intn(3)))
	}
	return renumbered(o, r.Perm(len(o.Right)))
}

// randomConnected returns a random connected origami.
func randomConnected(r *rand.Rand, n int) api.Origami {
	for {
		if o := random(r, n); len(parts(o)) == 1 {
			return o
		}
	}
}

// randomCover returns a random connected origami of k squares for each square of a connected one, and the covering.
func randomCover(r *rand.Rand, o api.Origami, k int) (api.Origami, []int) {
	for {
		c := squares(make([]int, k*len(o.Right)), make([]int, k*len(o.Right)))
		f := make([]int, k*len(o.Right))
		for x := range o.Right {
			right, up := r.Perm(k), r.Perm(k)
			for i := range k {
				f[k*x+i] = x
				c.Right[k*x+i], c.Up[k*x+i] = k*o.Right[x]+right[i], k*o.Up[x]+up[i]
			}
		}
		if len(parts(c)) > 1 {
			continue
		}
		p := r.Perm(len(f))
		g := make([]int, len(f))
		for x, y := range p {
			g[y] = f[x]
		}
		return renumbered(c, p), g
	}
}

const most = int(^uint(0) >> 1)

// badOrigamis are origamis that are not valid, with their errors.
func badOrigamis() map[string]struct {
	o api.Origami
	e api.Errno
} {
	type bad = struct {
		o api.Origami
		e api.Errno
	}
	return map[string]bad{
		"no squares":                        {squares(nil, nil), api.ErrShape},
		"no squares, but lists":             {squares([]int{}, []int{}), api.ErrShape},
		"no Up":                             {squares([]int{0}, nil), api.ErrShape},
		"no Right":                          {squares(nil, []int{0}), api.ErrShape},
		"a longer Right":                    {squares([]int{0, 1, 2}, []int{1, 0}), api.ErrShape},
		"a longer Up that is wrong":         {squares([]int{0, 1}, []int{1, 7, 7}), api.ErrShape},
		"61 squares, one of them not in Up": {squares(identity(61), identity(60)), api.ErrShape},
		"61 squares":                        {squares(identity(61), identity(61)), api.ErrLarge},
		"61 squares that are wrong":         {squares(make([]int, 61), slices.Repeat([]int{-1}, 61)), api.ErrLarge},
		"many squares":                      {squares(identity(5000), identity(5000)), api.ErrLarge},
		"a negative square in Right":        {squares([]int{1, -1}, []int{1, 0}), api.ErrRange},
		"a square n in Right":               {squares([]int{0, 2}, []int{1, 0}), api.ErrRange},
		"a square n in Up":                  {squares([]int{0, 1}, []int{2, 0}), api.ErrRange},
		"a negative square in Up":           {squares([]int{0}, []int{-1}), api.ErrRange},
		"squares from 1 on":                 {squares([]int{1, 2, 3}, []int{1, 2, 3}), api.ErrRange},
		"the least and the greatest int":    {squares([]int{most, 0}, []int{0, -most - 1}), api.ErrRange},
		"a square twice, then one n":        {squares([]int{0, 0, 3}, []int{0, 1, 2}), api.ErrRange},
		"a square twice in Right":           {squares([]int{0, 0}, []int{1, 0}), api.ErrForm},
		"a square twice in Up":              {squares([]int{0, 1, 2}, []int{2, 1, 2}), api.ErrForm},
		"Right twice, Up out of range":      {squares([]int{1, 1}, []int{0, 5}), api.ErrForm},
		"Right out of range, Up twice":      {squares([]int{0, -2}, []int{1, 1}), api.ErrRange},
		"sixty times 0":                     {squares(identity(60), make([]int, 60)), api.ErrForm},
	}
}

// splitOrigamis are origamis that are not connected.
func splitOrigamis() []api.Origami {
	return []api.Origami{
		squares([]int{0, 1}, []int{0, 1}),
		squares(identity(60), identity(60)),
		squares([]int{1, 0, 2}, []int{1, 0, 2}),
		beside(ell(), ell()),
		beside(torus(), ell()),
	}
}

// whole returns a vector of whole numbers.
func whole(x, y int) api.Vec { return api.Vec{X: field.Whole(x), Y: field.Whole(y)} }

// mustSurface returns the surface of an origami.
func mustSurface(t *testing.T, o api.Origami) api.Surface {
	t.Helper()
	s, e := origami.Surface(o)
	if e != api.OK {
		t.Fatalf("Surface of %v: %d", o, e)
	}
	return s
}
