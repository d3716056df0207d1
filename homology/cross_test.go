package homology_test

import (
	"math/rand"
	"slices"
	"testing"

	"flatland/api"
	"flatland/homology"
	"flatland/origami"
)

// intersection returns the intersection number of cycles that have one.
func intersection(t *testing.T, o api.Origami, a, b []int) int {
	t.Helper()
	x, e := homology.Intersect(o, a, b)
	want(t, "no error", e, api.OK)
	return x
}

// P8.3, example 1.
func TestIntersectionExample(t *testing.T) {
	a, b := []int{1, 0}, []int{0, 1}
	want(t, "a and b", intersection(t, torus(), a, b), 1)
	want(t, "b and a", intersection(t, torus(), b, a), -1)
	want(t, "a and a", intersection(t, torus(), a, a), 0)
	want(t, "large ones", intersection(t, torus(), []int{api.MaxChain, 3}, []int{-2, api.MaxChain}), 1000000000006)
	m, e := homology.Gram(torus(), [][]int{a, b, {1, 1}})
	wantLists(t, "Gram", m, e, [][]int{{0, 1, 1}, {-1, 0, -1}, {-1, 1, 0}}, api.OK)
	m, e = homology.Gram(torus(), nil)
	wantLists(t, "Gram of nothing", m, e, nil, api.OK)
}

// P8.3: the number does not depend on where turns begin.
func TestIntersectByFlow(t *testing.T) {
	r := rand.New(rand.NewSource(21))
	for _, o := range origamis(r, 60, 200) {
		for range 4 {
			a, b := randomCycle(r, o, 5), randomCycle(r, o, 5)
			x := intersection(t, o, a, b)
			for range 3 {
				want(t, "Intersect", x, intersectionOf(o, a, b, func() int { return r.Intn(100) - 50 }))
			}
		}
	}
}

// P8.3: a closed path that is pushed to its right side crosses a cycle so often from its right to its left side.
func TestIntersectByPaths(t *testing.T) {
	r := rand.New(rand.NewSource(22))
	for _, o := range append(origamis(r, 60, 100), small(3)...) {
		for range 5 {
			a, p := randomCycle(r, o, 3), randomPath(r, o)
			b := p.chain()
			if slices.Max(b) > 1000 || slices.Min(b) < -1000 {
				continue
			}
			want(t, "Intersect", intersection(t, o, a, b), p.crossings(a))
		}
	}
}

// P8.3: rows cross columns in the squares that they have in common, and do not cross each other.
func TestRowsAndColumns(t *testing.T) {
	r := rand.New(rand.NewSource(23))
	for _, o := range origamis(r, 60, 50) {
		n := len(o.Right)
		rows, _ := origami.Cycles(o.Right)
		columns, _ := origami.Cycles(o.Up)
		along := func(list []int, shift int) []int {
			c := make([]int, 2*n)
			for _, i := range list {
				c[shift+i] = 1
			}
			return c
		}
		for _, row := range rows {
			a := along(row, 0)
			want(t, "two rows", intersection(t, o, a, along(rows[0], 0)), 0)
			for _, column := range columns {
				common := 0
				for _, i := range row {
					if slices.Contains(column, i) {
						common++
					}
				}
				want(t, "a row and a column", intersection(t, o, a, along(column, n)), common)
				want(t, "two columns", intersection(t, o, along(columns[0], n), along(column, n)), 0)
			}
		}
	}
}

// P8.7: intersection numbers are antisymmetric and linear, and 0 with boundaries.
func TestIntersectionRules(t *testing.T) {
	r := rand.New(rand.NewSource(24))
	for _, o := range origamis(r, 60, 60) {
		a, b, c := randomCycle(r, o, 9), randomCycle(r, o, 9), randomCycle(r, o, 9)
		k := r.Intn(21) - 10
		want(t, "antisymmetric", intersection(t, o, a, b), -intersection(t, o, b, a))
		want(t, "0 with itself", intersection(t, o, a, a), 0)
		want(t, "linear in the first one", intersection(t, o, added(a, k, b), c), intersection(t, o, a, c)+k*intersection(t, o, b, c))
		want(t, "linear in the second one", intersection(t, o, c, added(a, k, b)), intersection(t, o, c, a)+k*intersection(t, o, c, b))
		for i := range o.Right {
			want(t, "0 with a boundary first", intersection(t, o, squareOf(o, i), a), 0)
			want(t, "0 with a boundary second", intersection(t, o, a, squareOf(o, i)), 0)
		}
	}
	// Cycles of different parts do not meet.
	o := beside(ell(), torus())
	want(t, "two parts", intersection(t, o, []int{1, 1, 1, 0, 5, 6, 7, 0}, []int{0, 0, 0, 3, 0, 0, 0, 4}), 0)
}

// P8.3: numbers as large as chains may have.
func TestLargeIntersections(t *testing.T) {
	r := rand.New(rand.NewSource(25))
	for range 20 {
		o := squares(r.Perm(60), r.Perm(60))
		a, b := randomCycle(r, o, 1), randomCycle(r, o, 1)
		scale := func(c []int) (int, []int) {
			k := api.MaxChain / max(1, slices.Max(c), -slices.Min(c))
			return k, times(k, c)
		}
		k, large := scale(a)
		l, other := scale(b)
		want(t, "Intersect", intersection(t, o, large, other), k*l*intersection(t, o, a, b))
	}
}

// P8.3: the Gram matrix has the intersection numbers; P8.7: that of a basis has the determinant 1.
func TestGram(t *testing.T) {
	r := rand.New(rand.NewSource(26))
	for _, o := range origamis(r, 40, 60) {
		var list [][]int
		for range r.Intn(8) {
			list = append(list, randomCycle(r, o, 4))
		}
		m, e := homology.Gram(o, list)
		want(t, "no error", e, api.OK)
		want(t, "its rows", len(m), len(list))
		for i, row := range m {
			want(t, "its columns", len(row), len(list))
			for j, x := range row {
				want(t, "Gram", x, crossed(o, list[i], list[j]))
			}
		}
		b := basisOf(t, o)
		if len(b) > api.MaxRows {
			continue
		}
		m, e = homology.Gram(o, mixed(r, o, b, 50, 10))
		want(t, "no error", e, api.OK)
		want(t, "the determinant of a basis", newLattice(m...).index().String(), "1")
		if len(b) <= 6 {
			want(t, "its sign", determinant(m, identity(len(b)), identity(len(b))).String(), "1")
		}
	}
}

// hasSymplectic checks that a list is a symplectic basis, by the definitions.
func hasSymplectic(t *testing.T, o api.Origami, b [][]int) {
	t.Helper()
	want(t, "the number of elements", len(b), rankOf(o))
	for i, c := range b {
		want(t, "is a cycle", slices.ContainsFunc(boundaryOf(o, c), func(x int) bool { return x != 0 }), false)
		want(t, "in the range of chains", slices.Max(c) <= api.MaxChain && slices.Min(c) >= -api.MaxChain, true)
		for j, d := range b {
			x := 0
			if i%2 == 0 && j == i+1 {
				x = 1
			} else if j%2 == 0 && i == j+1 {
				x = -1
			}
			want(t, "an intersection number", crossed(o, c, d), x)
		}
	}
}

// P8.3: what Symplectic returns is a symplectic basis, also where it is too long for a list of cycles.
func TestSymplectic(t *testing.T) {
	r := rand.New(rand.NewSource(27))
	list := append(origamis(r, 60, 150), squares(identity(60), identity(60)))
	for range 30 {
		list = append(list, squares(r.Perm(60), r.Perm(60)), long(1+r.Intn(30), 1+r.Intn(30)))
	}
	for _, o := range append(list, small(4)...) {
		b, e := homology.Symplectic(o)
		want(t, "no error", e, api.OK)
		hasSymplectic(t, o, b)
		e = api.OK
		if len(b) > api.MaxRows {
			e = api.ErrLarge
		}
		want(t, "CheckSymplectic of it", homology.CheckSymplectic(o, b), e)
		want(t, "CheckBasis of it", homology.CheckBasis(o, b), e)
	}
}

// P8.3: every symplectic basis is accepted, and nothing else.
func TestCheckSymplectic(t *testing.T) {
	r := rand.New(rand.NewSource(28))
	for _, o := range origamis(r, 14, 60) {
		good, _ := homology.Symplectic(o)
		for range 3 {
			b := slices.Clone(good)
			// Twists keep a symplectic basis.
			for range 10 {
				i := 2 * r.Intn(len(b)/2)
				j := 2 * r.Intn(len(b)/2)
				switch r.Intn(4) {
				case 0:
					b[i] = added(b[i], r.Intn(5)-2, b[i+1])
				case 1:
					b[i], b[i+1] = b[i+1], times(-1, b[i])
				case 2:
					if i != j {
						b[i], b[j+1] = added(b[i], 1, b[j]), added(b[j+1], -1, b[i+1])
					}
				case 3:
					b[i], b[i+1], b[j], b[j+1] = b[j], b[j+1], b[i], b[i+1]
				}
				b[i] = added(b[i], r.Intn(3), squareOf(o, r.Intn(len(o.Right))))
			}
			if slices.ContainsFunc(b, func(c []int) bool { return slices.Max(c) > 1000000 || slices.Min(c) < -1000000 }) {
				continue
			}
			hasSymplectic(t, o, b)
			want(t, "CheckSymplectic", homology.CheckSymplectic(o, b), api.OK)
			last := len(b) - 1
			for what, change := range map[string]func(b [][]int) [][]int{
				"reversed":              func(b [][]int) [][]int { b[0], b[1] = b[1], b[0]; return b },
				"without a pair":        func(b [][]int) [][]int { return b[:last-1] },
				"without an element":    func(b [][]int) [][]int { return b[:last] },
				"with 0":                func(b [][]int) [][]int { b[last] = times(0, b[last]); return b },
				"with twice an element": func(b [][]int) [][]int { b[last] = times(2, b[last]); return b },
				"with one negative":     func(b [][]int) [][]int { b[last] = times(-1, b[last]); return b },
				"with a pair twice":     func(b [][]int) [][]int { return append(b, b[0], b[1]) },
				"with one more element": func(b [][]int) [][]int { return append(b, squareOf(o, 0)) },
				"with one element less": func(b [][]int) [][]int { return b[1:] },
				"without elements":      func(b [][]int) [][]int { return nil },
			} {
				want(t, "CheckSymplectic of a list "+what, homology.CheckSymplectic(o, change(slices.Clone(b))), api.ErrProof)
			}
			if len(b) > 2 {
				b[0] = added(b[0], 1, b[2])
				want(t, "CheckSymplectic of a basis that is not", homology.CheckSymplectic(o, b), api.ErrProof)
				want(t, "CheckBasis of it", homology.CheckBasis(o, b), api.OK)
			}
		}
	}
	a, b := []int{1, 0}, []int{0, 1}
	want(t, "the torus", homology.CheckSymplectic(torus(), [][]int{a, b}), api.OK)
	want(t, "the torus reversed", homology.CheckSymplectic(torus(), [][]int{b, a}), api.ErrProof)
	want(t, "the torus reversed and negative", homology.CheckSymplectic(torus(), [][]int{b, {-1, 0}}), api.OK)
}
