package orbit_test

import (
	"math/rand"
	"slices"
	"testing"

	"flatland/api"
	"flatland/orbit"
	"flatland/origami"
)

const most = int(^uint(0) >> 1)

// want checks a value that contains no lists.
func want[T comparable](t *testing.T, what string, a, b T) {
	t.Helper()
	if a != b {
		t.Errorf("%s: %v, want %v", what, a, b)
	}
}

// wantBoth checks a value without lists and an error.
func wantBoth[T comparable](t *testing.T, what string, a T, e api.Errno, b T, f api.Errno) {
	t.Helper()
	wantSame(t, what, func(a, b T) bool { return a == b }, a, e, b, f)
}

// wantSame checks a value with lists and an error.
func wantSame[T any](t *testing.T, what string, same func(a, b T) bool, a T, e api.Errno, b T, f api.Errno) {
	t.Helper()
	if !same(a, b) || e != f {
		t.Errorf("%s: %v, %d, want %v, %d", what, a, e, b, f)
	}
}

// wantList checks a list and an error; nil and empty lists are the same.
func wantList[T comparable](t *testing.T, what string, a []T, e api.Errno, b []T, f api.Errno) {
	t.Helper()
	wantSame(t, what, slices.Equal, a, e, b, f)
}

// wantOrigami checks an origami and an error.
func wantOrigami(t *testing.T, what string, a api.Origami, e api.Errno, b api.Origami, f api.Errno) {
	t.Helper()
	wantSame(t, what, sameOrigami, a, e, b, f)
}

// The same values are those with the same elements; nil and empty lists are the same.

func sameOrigami(a, b api.Origami) bool {
	return slices.Equal(a.Right, b.Right) && slices.Equal(a.Up, b.Up)
}

func sameOrbit(a, b api.Orbit) bool {
	return slices.EqualFunc(a.Labels, b.Labels, sameOrigami) && slices.Equal(a.S, b.S) && slices.Equal(a.T, b.T)
}

func sameCusps(a, b []api.Cusp) bool {
	return slices.EqualFunc(a, b, func(x, y api.Cusp) bool { return x.Width == y.Width && slices.Equal(x.Members, y.Members) })
}

// unit returns a matrix.
func unit(a, b, c, d int) api.Unit { return api.Unit{A: a, B: b, C: c, D: d} }

// one is the matrix of the empty word.
func one() api.Unit { return unit(1, 0, 0, 1) }

// squares returns the origami with these neighbours.
func squares(right, up []int) api.Origami { return api.Origami{Right: right, Up: up} }

// ell and torus are the origamis of the chapter's examples.
func ell() api.Origami { return squares([]int{1, 0, 2}, []int{2, 1, 0}) }

func torus() api.Origami { return squares([]int{0}, []int{0}) }

// quaternions is eight squares in three directions of one kind, of genus 3.
func quaternions() api.Origami {
	return squares([]int{1, 2, 3, 0, 5, 6, 7, 4}, []int{4, 7, 6, 5, 2, 1, 0, 3})
}

// oneSided returns origamis without -1 in their Veech groups, with small orbits.
func oneSided() []api.Origami {
	return []api.Origami{
		squares([]int{4, 0, 1, 3, 2}, []int{4, 1, 3, 2, 0}),
		squares([]int{3, 1, 2, 0, 5, 4}, []int{4, 0, 1, 3, 5, 2}),
		squares([]int{2, 0, 4, 3, 5, 1}, []int{1, 3, 4, 2, 0, 5}),
		squares([]int{0, 5, 2, 4, 1, 3}, []int{5, 4, 3, 1, 0, 2}),
		squares([]int{6, 5, 1, 2, 3, 0, 4}, []int{2, 1, 6, 5, 0, 3, 4}),
		squares([]int{5, 2, 4, 0, 6, 1, 3}, []int{1, 6, 2, 4, 5, 0, 3}),
		squares([]int{5, 3, 1, 2, 0, 4, 6}, []int{1, 2, 0, 4, 6, 5, 3}),
		squares([]int{3, 6, 0, 4, 5, 1, 2, 7}, []int{2, 4, 5, 3, 6, 1, 7, 0}),
	}
}

// identity returns 0, .., n - 1.
func identity(n int) []int {
	var l []int
	for i := range n {
		l = append(l, i)
	}
	return l
}

// long is the L with a row of w squares and a column of h squares, which have one square in common.
func long(w, h int) api.Origami {
	o := squares(identity(w+h-1), identity(w+h-1))
	for x := range w {
		o.Right[x] = (x + 1) % w
	}
	column := append([]int{0}, identity(w + h - 1)[w:]...)
	for i, x := range column {
		o.Up[x] = column[(i+1)%h]
	}
	return o
}

// grid is the torus of rows of a squares, c of them above each other; above the last row the squares of the first one come b squares later.
func grid(a, b, c int) api.Origami {
	o := squares(make([]int, a*c), make([]int, a*c))
	for y := range c {
		for x := range a {
			o.Right[y*a+x] = y*a + (x+1)%a
			if y < c-1 {
				o.Up[y*a+x] = (y+1)*a + x
			} else {
				// The place (x, c) is that of (x - b, 0).
				o.Up[y*a+x] = ((x-b)%a + a) % a
			}
		}
	}
	return o
}

// renumbered returns the origami that is renumbered by f.
func renumbered(o api.Origami, f []int) api.Origami {
	x := squares(make([]int, len(f)), make([]int, len(f)))
	for i, y := range f {
		x.Right[y], x.Up[y] = f[o.Right[i]], f[o.Up[i]]
	}
	return x
}

// beside returns the origami of two others, which are parts of it.
func beside(a, b api.Origami) api.Origami {
	o := squares(slices.Clone(a.Right), slices.Clone(a.Up))
	for i := range b.Right {
		o.Right = append(o.Right, b.Right[i]+len(a.Right))
		o.Up = append(o.Up, b.Up[i]+len(a.Right))
	}
	return o
}

// isConnected reports whether a valid origami is connected.
func isConnected(o api.Origami) bool {
	parts, _ := origami.Components(o)
	return len(parts) == 1
}

// randomConnected returns a random connected origami of n squares, with few vertices of positive order or with many.
func randomConnected(r *rand.Rand, n int) api.Origami {
	for {
		o := squares(r.Perm(n), r.Perm(n))
		switch r.Intn(3) {
		case 0:
			o = grid(n, r.Intn(n), 1)
			for range r.Intn(3) {
				i, j := r.Intn(n), r.Intn(n)
				o.Up[i], o.Up[j] = o.Up[j], o.Up[i]
			}
			o = renumbered(o, r.Perm(n))
		case 1:
			o = grid(n, 0, 1)
			i, j := r.Intn(n), r.Intn(n)
			o.Right[i], o.Right[j] = o.Right[j], o.Right[i]
			o.Up[i], o.Up[j] = o.Up[j], o.Up[i]
			o = renumbered(o, r.Perm(n))
		}
		if isConnected(o) {
			return o
		}
	}
}

// connectedOnes returns the chapter's origamis and random ones of at most n squares.
func connectedOnes(seed int64, count, n int) []api.Origami {
	r := rand.New(rand.NewSource(seed))
	list := []api.Origami{ell(), torus(), long(2, 3), long(3, 2), grid(2, 1, 1), grid(5, 2, 1), grid(2, 1, 2)}
	for range count {
		list = append(list, randomConnected(r, 1+r.Intn(n)))
	}
	return slices.DeleteFunc(list, func(o api.Origami) bool { return len(o.Right) > n })
}

// permutations returns all orders of 0, .., n - 1.
func permutations(n int) [][]int {
	if n == 0 {
		return [][]int{nil}
	}
	var all [][]int
	for _, p := range permutations(n - 1) {
		for i := range n {
			all = append(all, slices.Insert(slices.Clone(p), i, n-1))
		}
	}
	return all
}

// small returns all connected origamis of at most n squares.
func small(n int) []api.Origami {
	var all []api.Origami
	for k := range n {
		for _, right := range permutations(k + 1) {
			for _, up := range permutations(k + 1) {
				if o := squares(right, up); isConnected(o) {
					all = append(all, o)
				}
			}
		}
	}
	return all
}

// words returns all words of the letters with at most n of them, ordered by their lengths and then as texts, if the letters are so.
func words(letters string, n int) []string {
	all := []string{""}
	for i := 0; i < len(all); i++ {
		if len(all[i]) == n {
			break
		}
		for _, c := range letters {
			all = append(all, all[i]+string(c))
		}
	}
	return all
}

// randomWord returns a random word of n letters.
func randomWord(r *rand.Rand, n int) string {
	b := make([]byte, n)
	for i := range b {
		b[i] = "STst"[r.Intn(4)]
	}
	return string(b)
}

// label returns the label of a connected origami.
func label(o api.Origami) api.Origami {
	x, _, e := origami.Label(o)
	if e != api.OK {
		panic("no label")
	}
	return x
}

// orbitOf returns the orbit of an origami that has one.
func orbitOf(t *testing.T, o api.Origami) api.Orbit {
	t.Helper()
	x, e := orbit.Enumerate(o)
	if e != api.OK {
		t.Fatalf("Enumerate of %v: %d", o, e)
	}
	return x
}

// copied returns a copy of an orbit.
func copied(x api.Orbit) api.Orbit {
	c := api.Orbit{S: slices.Clone(x.S), T: slices.Clone(x.T)}
	for _, o := range x.Labels {
		c.Labels = append(c.Labels, squares(slices.Clone(o.Right), slices.Clone(o.Up)))
	}
	return c
}
