package homology_test

import (
	"math/rand"
	"slices"
	"testing"

	"flatland/api"
	"flatland/homology"
	"flatland/origami"
)

// P8.1, examples 1 and 3.
func TestCellExamples(t *testing.T) {
	l, e := homology.Vertices(torus())
	wantList(t, "the vertex of the torus", l, e, []int{0}, api.OK)
	l, e = homology.Square(torus(), 0)
	wantList(t, "the square of the torus", l, e, []int{0, 0}, api.OK)
	l, e = homology.Vertices(ell())
	wantList(t, "the vertex of the L", l, e, []int{0, 0, 0}, api.OK)
	l, e = homology.Square(ell(), 1)
	wantList(t, "square 1 of the L", l, e, []int{0, 0, 0, 1, -1, 0}, api.OK)
	l, is, e := homology.Bounds(ell(), l)
	wantList(t, "its multiples", l, e, []int{0, 1, 0}, api.OK)
	want(t, "is a boundary", is, true)
}

// P8.1: vertices are numbered by their least squares.
func TestVertices(t *testing.T) {
	for _, o := range origamis(rand.New(rand.NewSource(1)), 60, 200) {
		l, e := homology.Vertices(o)
		wantList(t, "Vertices", l, e, verticesOf(o), api.OK)
	}
	l, e := homology.Vertices(beside(grid(2, 2), ell()))
	wantList(t, "vertices of two parts", l, e, []int{0, 1, 2, 3, 4, 4, 4}, api.OK)
}

// P8.1: the boundary of a chain, by vertices.
func TestBoundary(t *testing.T) {
	r := rand.New(rand.NewSource(2))
	for _, o := range origamis(r, 60, 100) {
		for _, size := range []int{1, 10, api.MaxChain} {
			c := randomChain(r, o, size)
			l, e := homology.Boundary(o, c)
			wantList(t, "Boundary", l, e, boundaryOf(o, c), api.OK)
		}
		l, e := homology.Boundary(o, randomCycle(r, o, 10))
		wantList(t, "the boundary of a cycle", l, e, make([]int, slices.Max(verticesOf(o))+1), api.OK)
	}
	c := edgeChain(4, 4)
	l, e := homology.Boundary(grid(2, 2), c)
	wantList(t, "the left edge of square 0 leads upwards", l, e, []int{-1, 0, 1, 0}, api.OK)
	l, e = homology.Boundary(grid(2, 2), edgeChain(4, 0))
	wantList(t, "the bottom edge of square 0 leads to the right", l, e, []int{-1, 1, 0, 0}, api.OK)
	// All edges that end at the one vertex also begin there.
	l, e = homology.Boundary(ell(), []int{1000000, -1000000, 1, 1000000, 7, 0})
	wantList(t, "of the L", l, e, []int{0}, api.OK)
}

// P8.1: the boundaries of squares, added up where edges are the same.
func TestSquare(t *testing.T) {
	for _, o := range origamis(rand.New(rand.NewSource(3)), 60, 100) {
		for i := range o.Right {
			l, e := homology.Square(o, i)
			wantList(t, "Square", l, e, squareOf(o, i), api.OK)
		}
		for _, i := range []int{-1, len(o.Right), len(o.Right) + 1, most, -most - 1} {
			l, e := homology.Square(o, i)
			wantList(t, "no square", l, e, nil, api.ErrMissing)
		}
	}
	l, e := homology.Square(squares([]int{1, 0}, []int{0, 1}), 0)
	wantList(t, "a square below and above itself", l, e, []int{0, 0, -1, 1}, api.OK)
}

// P8.1: sums of boundaries of squares are recognized, with the multiples that are 0 for the least square of each part.
func TestBounds(t *testing.T) {
	r := rand.New(rand.NewSource(4))
	for _, o := range origamis(r, 60, 100) {
		part, n := partsOf(o), len(o.Right)
		for _, size := range []int{1, 100, 250000} {
			multiples := make([]int, n)
			for i := range multiples {
				if part[i] != i {
					multiples[i] = r.Intn(2*size+1) - size
				}
			}
			c := sumOf(multiples, boundaries(o), 2*n)
			l, is, e := homology.Bounds(o, c)
			wantList(t, "Bounds", l, e, multiples, api.OK)
			want(t, "is a sum", is, true)
		}
		bound := newLattice(boundaries(o)...)
		for range 3 {
			for _, c := range [][]int{randomChain(r, o, 1), randomCycle(r, o, 1)} {
				l, is, e := homology.Bounds(o, c)
				want(t, "is a sum, as the lattice says", is, bound.contains(c))
				want(t, "no error", e, api.OK)
				if is {
					want(t, "the sum", slices.Equal(sumOf(l, boundaries(o), 2*n), c), true)
				} else {
					want(t, "no multiples", len(l), 0)
				}
			}
		}
	}
	// The largest multiples: one row, whose squares' left edges have the greatest number.
	o := squares(append(identity(60)[1:], 0), identity(60))
	c := make([]int, 120)
	for i := 61; i < 120; i++ {
		c[i] = api.MaxChain
	}
	c[60] = -59 * api.MaxChain
	_, _, e := homology.Bounds(o, c)
	want(t, "a number out of range", e, api.ErrRange)
	c[60] = 0
	_, is, e := homology.Bounds(o, c)
	wantBoth(t, "no sum", is, e, false, api.OK)
	for i := 90; i < 120; i++ {
		c[i] = -api.MaxChain
	}
	c[90] = 0
	l, is, e := homology.Bounds(o, c)
	wantBoth(t, "a sum", is, e, true, api.OK)
	want(t, "the multiple of square 1", l[1], -api.MaxChain)
	want(t, "the multiple of square 29", l[29], -29*api.MaxChain)
	want(t, "the multiple of square 59", l[59], 0)
}

// P8.1: all boundaries of small origamis, and chains that differ from them by one edge.
func TestBoundsNearby(t *testing.T) {
	for _, o := range small(4) {
		for i := range o.Right {
			c := squareOf(o, i)
			_, is, e := homology.Bounds(o, times(2, c))
			wantBoth(t, "twice a boundary", is, e, true, api.OK)
			c[0]++
			_, is, e = homology.Bounds(o, c)
			wantBoth(t, "a boundary and an edge", is, e, newLattice(boundaries(o)...).contains(c), api.OK)
		}
	}
}

// P8.1: the errors of chains.
func TestChainErrors(t *testing.T) {
	for _, c := range []struct {
		c []int
		e api.Errno
	}{
		{nil, api.ErrShape},
		{[]int{0, 0, 0, 0, 0}, api.ErrShape},
		{[]int{0, 0, 0, 0, 0, 0, 0}, api.ErrShape},
		{[]int{api.MaxChain + 1}, api.ErrShape},
		{[]int{0, 0, 0, 0, 0, api.MaxChain + 1}, api.ErrRange},
		{[]int{-api.MaxChain - 1, 0, 0, 0, 0, 0}, api.ErrRange},
		{[]int{0, most, 0, 0, 0, 0}, api.ErrRange},
		{[]int{0, 0, -most - 1, 0, 0, 0}, api.ErrRange},
		{[]int{api.MaxChain, -api.MaxChain, 0, 0, api.MaxChain, -api.MaxChain}, api.OK},
	} {
		_, e := homology.Boundary(ell(), c.c)
		want(t, "Boundary", e, c.e)
		_, _, e = homology.Bounds(ell(), c.c)
		want(t, "Bounds", e, c.e)
		_, _, e = homology.Holonomy(ell(), c.c)
		want(t, "Holonomy", e, c.e)
		_, _, e = homology.Push(ell(), "T", c.c)
		want(t, "Push", e, c.e)
	}
	// A chain that is no cycle is one all the same.
	_, is, e := homology.Bounds(grid(2, 1), []int{1, 0, 0, 0})
	wantBoth(t, "Bounds of what is no cycle", is, e, false, api.OK)
}

// The vertices are those of package origami.
func TestOrigamiVertices(t *testing.T) {
	for _, o := range origamis(rand.New(rand.NewSource(5)), 60, 50) {
		l, _ := homology.Vertices(o)
		corners, _ := origami.Vertices(o)
		for v, list := range corners {
			for _, i := range list {
				want(t, "the vertex of a square", l[i], v)
			}
		}
	}
}
