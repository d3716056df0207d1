package homology_test

import (
	"math/rand"
	"slices"
	"testing"

	"flatland/api"
	"flatland/field"
	"flatland/homology"
)

const most = int(^uint(0) >> 1)

// want checks a value that contains no lists.
func want[T comparable](t *testing.T, what string, a, b T) {
	t.Helper()
	if a != b {
		t.Errorf("%s: %v, want %v", what, a, b)
	}
}

// wantBoth checks a value without lists and an error.
func wantBoth[T comparable](t *testing.T, what string, a T, e api.Errno, b T, f api.Errno) {
	t.Helper()
	wantSame(t, what, func(a, b T) bool { return a == b }, a, e, b, f)
}

// wantSame checks a value with lists and an error.
func wantSame[T any](t *testing.T, what string, same func(a, b T) bool, a T, e api.Errno, b T, f api.Errno) {
	t.Helper()
	if !same(a, b) || e != f {
		t.Errorf("%s: %v, %d, want %v, %d", what, a, e, b, f)
	}
}

// wantList checks a list and an error; nil and empty lists are the same.
func wantList(t *testing.T, what string, a []int, e api.Errno, b []int, f api.Errno) {
	t.Helper()
	wantSame(t, what, slices.Equal, a, e, b, f)
}

// wantLists checks a list of lists and an error.
func wantLists(t *testing.T, what string, a [][]int, e api.Errno, b [][]int, f api.Errno) {
	t.Helper()
	wantSame(t, what, sameLists, a, e, b, f)
}

// sameLists reports whether two lists of lists have the same elements; nil and empty lists are the same.
func sameLists(a, b [][]int) bool { return slices.EqualFunc(a, b, slices.Equal) }

func sameOrigami(a, b api.Origami) bool {
	return slices.Equal(a.Right, b.Right) && slices.Equal(a.Up, b.Up)
}

// squares returns the origami with these neighbours.
func squares(right, up []int) api.Origami { return api.Origami{Right: right, Up: up} }

// ell and torus are the origamis of the chapter's examples.
func ell() api.Origami { return squares([]int{1, 0, 2}, []int{2, 1, 0}) }

func torus() api.Origami { return squares([]int{0}, []int{0}) }

// quaternions is eight squares in three directions of one kind, of genus 3.
func quaternions() api.Origami {
	return squares([]int{1, 2, 3, 0, 5, 6, 7, 4}, []int{4, 7, 6, 5, 2, 1, 0, 3})
}

// identity returns 0, .., n - 1.
func identity(n int) []int {
	var l []int
	for i := range n {
		l = append(l, i)
	}
	return l
}

// long is the L with a row of w squares and a column of h squares, which have one square in common.
func long(w, h int) api.Origami {
	o := squares(identity(w+h-1), identity(w+h-1))
	for x := range w {
		o.Right[x] = (x + 1) % w
	}
	column := append([]int{0}, identity(w + h - 1)[w:]...)
	for i, x := range column {
		o.Up[x] = column[(i+1)%h]
	}
	return o
}

// grid is the torus of c rows of a squares, whose vertices are all marked points.
func grid(a, c int) api.Origami {
	o := squares(nil, nil)
	for y := range c {
		for x := range a {
			o.Right = append(o.Right, y*a+(x+1)%a)
			o.Up = append(o.Up, (y+1)%c*a+x)
		}
	}
	return o
}

// beside returns the origami of two others, which are parts of it.
func beside(a, b api.Origami) api.Origami {
	o := squares(slices.Clone(a.Right), slices.Clone(a.Up))
	for i := range b.Right {
		o.Right = append(o.Right, b.Right[i]+len(a.Right))
		o.Up = append(o.Up, b.Up[i]+len(a.Right))
	}
	return o
}

// random returns a random origami of n squares, with many vertices or with few, connected or not.
func random(r *rand.Rand, n int) api.Origami {
	o := squares(r.Perm(n), r.Perm(n))
	if r.Intn(2) == 0 {
		return o
	}
	o = squares(identity(n), identity(n))
	for range r.Intn(n + 1) {
		list := [][]int{o.Right, o.Up}[r.Intn(2)]
		i, j := r.Intn(n), r.Intn(n)
		list[i], list[j] = list[j], list[i]
	}
	return o
}

// permutations returns all orders of 0, .., n - 1.
func permutations(n int) [][]int {
	if n == 0 {
		return [][]int{nil}
	}
	var all [][]int
	for _, p := range permutations(n - 1) {
		for i := range n {
			all = append(all, slices.Insert(slices.Clone(p), i, n-1))
		}
	}
	return all
}

// small returns all origamis of at most n squares, connected or not.
func small(n int) []api.Origami {
	var all []api.Origami
	for k := range n {
		for _, right := range permutations(k + 1) {
			for _, up := range permutations(k + 1) {
				all = append(all, squares(right, up))
			}
		}
	}
	return all
}

// origamis returns origamis of all kinds: small ones, known ones, and random ones of up to n squares.
func origamis(r *rand.Rand, n, count int) []api.Origami {
	list := append(small(3), ell(), torus(), quaternions(), long(4, 3), grid(3, 2), grid(1, 5), beside(ell(), quaternions()), beside(beside(torus(), ell()), grid(2, 2)))
	for range count {
		list = append(list, random(r, 1+r.Intn(n)))
	}
	return list
}

// times returns k times a chain.
func times(k int, c []int) []int { return added(make([]int, len(c)), k, c) }

// added returns a + k b.
func added(a []int, k int, b []int) []int {
	c := slices.Clone(a)
	for i, x := range b {
		c[i] += k * x
	}
	return c
}

// edgeChain returns the chain of one edge of n squares.
func edgeChain(n, edge int) []int {
	c := make([]int, 2*n)
	c[edge] = 1
	return c
}

// randomChain returns a random chain with numbers of at most a size.
func randomChain(r *rand.Rand, o api.Origami, size int) []int {
	c := make([]int, 2*len(o.Right))
	for i := range c {
		c[i] = r.Intn(2*size+1) - size
	}
	return c
}

// randomCycle returns a sum of multiples of random closed paths and boundaries of squares.
func randomCycle(r *rand.Rand, o api.Origami, size int) []int {
	c := make([]int, 2*len(o.Right))
	for range 1 + r.Intn(3) {
		c = added(c, r.Intn(2*size+1)-size, randomPath(r, o).chain())
		c = added(c, r.Intn(2*size+1)-size, squareOf(o, r.Intn(len(o.Right))))
	}
	return c
}

// mixed returns a basis that is made of another one by adding multiples of its elements, and of boundaries, to others, with numbers of at most a size.
func mixed(r *rand.Rand, o api.Origami, basis [][]int, size, steps int) [][]int {
	b := slices.Clone(basis)
	for range steps {
		i, j := r.Intn(len(b)), r.Intn(len(b))
		c := added(b[i], r.Intn(3)-1, squareOf(o, r.Intn(len(o.Right))))
		if i != j {
			c = added(c, r.Intn(5)-2, b[j])
		} else if r.Intn(2) == 0 {
			c = times(-1, c)
		}
		if slices.Max(c) <= size && slices.Min(c) >= -size {
			b[i] = c
		}
	}
	return b
}

// basisOf returns the basis of an origami that has one.
func basisOf(t *testing.T, o api.Origami) [][]int {
	t.Helper()
	b, e := homology.Basis(o)
	if e != api.OK {
		t.Fatalf("Basis of %v: %d", o, e)
	}
	return b
}

// words returns all words of the letters with at most n of them.
func words(n int) []string {
	all := []string{""}
	for i := 0; i < len(all) && len(all[i]) < n; i++ {
		for _, c := range "STst" {
			all = append(all, all[i]+string(c))
		}
	}
	return all
}

// randomWord returns a random word of n letters.
func randomWord(r *rand.Rand, n int) string {
	b := make([]byte, n)
	for i := range b {
		b[i] = "STst"[r.Intn(4)]
	}
	return string(b)
}

// vec returns a vector of whole numbers.
func vec(x, y int) api.Vec { return api.Vec{X: field.Whole(x), Y: field.Whole(y)} }

// face returns a face with the whole edges x, y, x, y, ..
func face(at ...int) []api.Vec {
	var l []api.Vec
	for p := range slices.Chunk(at, 2) {
		l = append(l, vec(p[0], p[1]))
	}
	return l
}

// partners returns the slots face, edge, face, edge, ..
func partners(at ...int) []api.Slot {
	var l []api.Slot
	for p := range slices.Chunk(at, 2) {
		l = append(l, api.Slot{Face: p[0], Edge: p[1]})
	}
	return l
}

// badOrigamis are origamis that are not valid, with their errors.
func badOrigamis() map[string]struct {
	o api.Origami
	e api.Errno
} {
	type bad = struct {
		o api.Origami
		e api.Errno
	}
	return map[string]bad{
		"no squares":             {squares(nil, nil), api.ErrShape},
		"no Up":                  {squares([]int{0}, nil), api.ErrShape},
		"a longer Right":         {squares([]int{0, 1, 2}, []int{1, 0}), api.ErrShape},
		"61 squares":             {squares(identity(61), identity(61)), api.ErrLarge},
		"a square out of range":  {squares([]int{0, 2}, []int{1, 0}), api.ErrRange},
		"a negative square":      {squares([]int{0}, []int{-1}), api.ErrRange},
		"the greatest int":       {squares([]int{most, 0}, []int{0, -most - 1}), api.ErrRange},
		"a square twice":         {squares([]int{0, 0}, []int{1, 0}), api.ErrForm},
		"a square twice in Up":   {squares([]int{0, 1, 2}, []int{2, 1, 2}), api.ErrForm},
		"twice and out of range": {squares([]int{1, 1}, []int{0, 5}), api.ErrForm},
	}
}
