package origami_test

import (
	"fmt"
	"math/rand"
	"slices"
	"testing"

	"flatland/api"
	"flatland/origami"
	"flatland/surface"
)

// some returns small and random origamis of many kinds.
func some(seed int64) []api.Origami {
	r := rand.New(rand.NewSource(seed))
	list := slices.Concat(small(3), splitOrigamis(), []api.Origami{ell(), torus(), twoWide(), grid(6, 5, 10), grid(60, 1, 1), grid(1, 0, 60), divided(ell(), 4, 5), beside(divided(ell(), 2, 2), grid(3, 1, 4))})
	for range 150 {
		if o := random(r, 1+r.Intn(36)); len(o.Right) <= 60 {
			list = append(list, o)
		}
	}
	return list
}

// P6.4: commutators and vertices, against points at which corners of squares meet.
func TestVertices(t *testing.T) {
	for _, o := range some(8) {
		var right []int
		for x := range o.Right {
			right = append(right, walk(o, x, "ldru"))
		}
		c, e := origami.Commutator(o)
		wantList(t, "Commutator", c, e, right, api.OK)
		l, e := origami.Vertices(o)
		wantLists(t, fmt.Sprint("Vertices of ", o), l, e, around(o), api.OK)
	}
	c, e := origami.Commutator(ell())
	wantList(t, "Commutator of the L", c, e, []int{2, 0, 1}, api.OK)
	l, e := origami.Vertices(ell())
	wantLists(t, "Vertices of the L", l, e, [][]int{{0, 2, 1}}, api.OK)
	l, e = origami.Vertices(twoWide())
	wantLists(t, "Vertices of two squares", l, e, [][]int{{0}, {1}}, api.OK)
}

// P6.4, P6.10: strata, genera and periods; those of package surface are the same.
func TestStratum(t *testing.T) {
	r := rand.New(rand.NewSource(9))
	for _, o := range connected(some(10)) {
		var orders []int
		sum := 0
		for _, c := range around(o) {
			orders = append(orders, len(c)-1)
			sum += len(c) - 1
		}
		slices.SortFunc(orders, func(a, b int) int { return b - a })
		want(t, "the sum of the orders is even", sum%2, 0)
		l, e := origami.Stratum(o)
		wantList(t, "Stratum", l, e, orders, api.OK)
		g, e := origami.Genus(o)
		wantList(t, "Genus", []int{2*g - 2}, e, []int{sum}, api.OK)
		p, e := origami.Periods(o)
		wantList(t, fmt.Sprint("Periods of ", o), []api.Lattice{p}, e, []api.Lattice{latticeOf(o)}, api.OK)
		s := mustSurface(t, o)
		m, f := surface.Stratum(s)
		wantList(t, "the stratum of the surface", m, f, orders, api.OK)
		h, f := surface.Genus(s)
		wantList(t, "the genus of the surface", []int{h}, f, []int{g}, api.OK)
		// Renumbered they are the same.
		x := renumbered(o, r.Perm(len(o.Right)))
		l, e = origami.Stratum(x)
		wantList(t, "Stratum of the renumbered one", l, e, orders, api.OK)
		h, e = origami.Genus(x)
		wantList(t, "Genus of the renumbered one", []int{h}, e, []int{g}, api.OK)
		q, e := origami.Periods(x)
		wantList(t, "Periods of the renumbered one", []api.Lattice{q}, e, []api.Lattice{p}, api.OK)
	}
	for _, c := range []struct {
		o      api.Origami
		orders []int
		genus  int
		l      api.Lattice
	}{
		{ell(), []int{2}, 2, api.Lattice{A: 1, C: 1}},
		{torus(), []int{0}, 1, api.Lattice{A: 1, C: 1}},
		{twoWide(), []int{0, 0}, 1, api.Lattice{A: 2, C: 1}},
		{divided(ell(), 2, 1), []int{2, 0, 0, 0}, 2, api.Lattice{A: 2, C: 1}},
		{divided(ell(), 3, 6), append([]int{2}, make([]int, 51)...), 2, api.Lattice{A: 3, C: 6}},
		{squares([]int{1, 2, 3, 0}, []int{1, 0, 3, 2}), []int{1, 1}, 2, api.Lattice{A: 2, B: 1, C: 1}},
	} {
		l, e := origami.Stratum(c.o)
		wantList(t, fmt.Sprint("Stratum of ", c.o), l, e, c.orders, api.OK)
		g, e := origami.Genus(c.o)
		wantList(t, fmt.Sprint("Genus of ", c.o), []int{g}, e, []int{c.genus}, api.OK)
		p, e := origami.Periods(c.o)
		wantList(t, fmt.Sprint("Periods of ", c.o), []api.Lattice{p}, e, []api.Lattice{c.l}, api.OK)
	}
}

// P6.4: the periods of tori with any numbers of the squares, which may be far from square 0.
func TestTorusPeriods(t *testing.T) {
	r := rand.New(rand.NewSource(11))
	for a := 1; a <= 60; a++ {
		for c := 1; a*c <= 60; c++ {
			for b := range a {
				if a > 12 && r.Intn(4) > 0 {
					continue
				}
				p, e := origami.Periods(renumbered(grid(a, b, c), r.Perm(a*c)))
				wantList(t, "Periods of a torus", []api.Lattice{p}, e, []api.Lattice{{A: a, B: b, C: c}}, api.OK)
			}
		}
	}
}

// P6.10: the orders of a component add up to an even number.
func TestEvenComponents(t *testing.T) {
	for _, o := range some(12) {
		n, e := origami.Components(o)
		want(t, "Components", e, api.OK)
		for i := range n {
			p, _ := origami.Part(o, i)
			l, e := origami.Stratum(p)
			want(t, "Stratum of a part", e, api.OK)
			sum := 0
			for _, d := range l {
				sum += d
			}
			want(t, "the sum is even", sum%2, 0)
		}
	}
}
