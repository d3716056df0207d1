package orbit_test

import (
	"fmt"
	"math/rand"
	"slices"
	"testing"

	"flatland/api"
	"flatland/orbit"
)

// P7.5: the ways, words and matrices of the examples.
func TestExampleWays(t *testing.T) {
	w, e := orbit.Reach(ellOrbit(), 0, 2)
	wantBoth(t, "Reach", w, e, "ST", api.OK)
	w, e = orbit.Reach(ellOrbit(), 2, 0)
	wantBoth(t, "Reach", w, e, "TS", api.OK)
	w, e = orbit.Reach(ellOrbit(), 1, 1)
	wantBoth(t, "Reach", w, e, "", api.OK)
	g, e := orbit.Generators(ell())
	wantList(t, "Generators", g, e, []string{"S", "TT", "tSST", "tsTST"}, api.OK)
	g, e = orbit.Generators(torus())
	wantList(t, "Generators of a square", g, e, []string{"S", "T"}, api.OK)
	has, e := orbit.Contains(ell(), unit(1, 2, 0, 1))
	wantBoth(t, "Contains", has, e, true, api.OK)
	has, e = orbit.Contains(ell(), unit(1, 1, 0, 1))
	wantBoth(t, "Contains", has, e, false, api.OK)
	w, e = orbit.Connect(ell(), squares([]int{1, 2, 0}, []int{0, 2, 1}))
	wantBoth(t, "Connect", w, e, "ST", api.OK)
}

// somePlaces returns origamis with orbits that are not too large.
func somePlaces() []api.Origami {
	return slices.Concat(small(3), oneSided(), []api.Origami{long(2, 3), long(3, 2), long(3, 3), long(4, 2), grid(7, 0, 1), grid(12, 5, 1), grid(2, 1, 3), quaternions()})
}

// P7.5: ways against all words of S and T, the shortest ones first and then as texts.
func TestShortWays(t *testing.T) {
	all := words("ST", 9)
	for _, o := range []api.Origami{ell(), torus(), grid(2, 0, 1), grid(3, 1, 1), long(2, 3)} {
		x := orbitOf(t, o)
		for from := range x.Labels {
			for to := range x.Labels {
				i := slices.IndexFunc(all, func(w string) bool { return sameOrigami(label(actWord(x.Labels[from], w)), x.Labels[to]) })
				if i < 0 {
					continue // a way of more than nine letters
				}
				w, e := orbit.Reach(x, from, to)
				wantBoth(t, fmt.Sprint("Reach of ", o, from, to), w, e, all[i], api.OK)
			}
		}
	}
}

// P7.5: ways of any length.
func TestWays(t *testing.T) {
	r := rand.New(rand.NewSource(20))
	longest := 0
	for _, o := range somePlaces() {
		x := orbitOf(t, o)
		for range 4 {
			from := r.Intn(len(x.Labels))
			ways := waysBy(x, from)
			for range 4 {
				to := r.Intn(len(x.Labels))
				w, e := orbit.Reach(x, from, to)
				wantBoth(t, fmt.Sprint("Reach of ", o, from, to), w, e, ways[to], api.OK)
				wantOrigami(t, "where it leads", label(actWord(x.Labels[from], w)), e, x.Labels[to], api.OK)
				a, b := renumbered(x.Labels[from], r.Perm(len(o.Right))), renumbered(x.Labels[to], r.Perm(len(o.Right)))
				w, e = orbit.Connect(a, b)
				wantBoth(t, fmt.Sprint("Connect of ", a, b), w, e, ways[to], api.OK)
				longest = max(longest, len(w))
			}
		}
	}
	want(t, "some ways are long", longest > 10, true)
}

// P7.5: members that are not there, and orbits that are not the same.
func TestNoWay(t *testing.T) {
	for _, c := range [][2]int{{-1, 0}, {0, -1}, {3, 0}, {0, 3}, {3, 3}, {most, 0}, {0, -most - 1}, {-1, -1}} {
		w, e := orbit.Reach(ellOrbit(), c[0], c[1])
		wantBoth(t, fmt.Sprint("Reach of ", c), w, e, "", api.ErrMissing)
	}
	for _, c := range [][2]api.Origami{
		{ell(), torus()},
		{torus(), ell()},
		{long(2, 4), long(3, 3)}, // the two orbits of five squares
		{long(3, 3), long(2, 4)},
		{grid(4, 0, 1), grid(2, 0, 2)},
		{grid(2, 0, 2), grid(4, 1, 1)},
		{ell(), grid(3, 0, 1)},
	} {
		w, e := orbit.Connect(c[0], c[1])
		wantBoth(t, fmt.Sprint("Connect of ", c), w, e, "", api.ErrNone)
	}
	w, e := orbit.Connect(long(2, 4), long(4, 2))
	want(t, "Connect of two that are turned", e == api.OK && len(w) > 0, true)
}

// P7.5, P7.7: generators by the definitions, and that they are in the Veech group.
func TestGenerators(t *testing.T) {
	r := rand.New(rand.NewSource(21))
	for _, o := range append(somePlaces(), connectedOnes(22, 20, 6)...) {
		x := orbitOf(t, o)
		if len(x.Labels) > 100 {
			continue
		}
		o := renumbered(o, r.Perm(len(o.Right)))
		g, e := orbit.Generators(o)
		wantList(t, fmt.Sprint("Generators of ", o), g, e, generatorsBy(x, o), api.OK)
		for _, w := range g {
			m, e := orbit.Matrix(w)
			if e != api.OK {
				continue
			}
			has, e := orbit.Contains(o, m)
			wantBoth(t, fmt.Sprint("Contains of the generator ", w, " of ", o), has, e, true, api.OK)
			x, e := orbit.Act(o, w)
			wantOrigami(t, "what the generator makes", label(x), e, label(o), api.OK)
		}
	}
}

// modulo returns a matrix with entries from 0 to n - 1.
func modulo(m api.Unit, n int) api.Unit {
	f := func(x int) int { return (x%n + n) % n }
	return unit(f(m.A), f(m.B), f(m.C), f(m.D))
}

// productModulo returns the product of two matrices modulo n.
func productModulo(a, b api.Unit, n int) api.Unit {
	return modulo(unit(a.A*b.A+a.B*b.C, a.A*b.B+a.B*b.D, a.C*b.A+a.D*b.C, a.C*b.B+a.D*b.D), n)
}

// P7.5: the generators generate the Veech group: modulo n they make as many matrices as there are ways that come back.
func TestGeneratorsGenerate(t *testing.T) {
	for _, o := range []api.Origami{ell(), long(2, 3), long(2, 4), long(3, 3), grid(5, 0, 1), oneSided()[0], oneSided()[7]} {
		x := orbitOf(t, o)
		g, e := orbit.Generators(o)
		want(t, "Generators", e, api.OK)
		first, _ := slices.BinarySearchFunc(x.Labels, label(o), lessLabel)
		for _, n := range []int{2, 3, 4, 5, 6} {
			made := map[api.Unit]bool{one(): true}
			for work := []api.Unit{one()}; len(work) > 0; work = work[1:] {
				for _, w := range g {
					m, _ := orbit.Matrix(w)
					if p := productModulo(modulo(m, n), work[0], n); !made[p] {
						made[p] = true
						work = append(work, p)
					}
				}
			}
			type place struct {
				member int
				m      api.Unit
			}
			back := map[api.Unit]bool{}
			seen := map[place]bool{{first, one()}: true}
			for work := []place{{first, one()}}; len(work) > 0; work = work[1:] {
				p := work[0]
				if p.member == first {
					back[p.m] = true
				}
				for _, q := range []place{{x.S[p.member], productModulo(letterMatrix('S'), p.m, n)}, {x.T[p.member], productModulo(letterMatrix('T'), p.m, n)}} {
					if !seen[q] {
						seen[q] = true
						work = append(work, q)
					}
				}
			}
			want(t, fmt.Sprint("matrices modulo ", n, " of ", o), len(made), len(back))
			for m := range back {
				want(t, "each one is made", made[m], true)
			}
		}
	}
}

// P7.5: the Veech group of a row of n squares is the matrices whose upper right entry is a multiple of n.
func TestContainsOfRows(t *testing.T) {
	r := rand.New(rand.NewSource(23))
	found := map[bool]int{}
	for range 1000 {
		n := 1 + r.Intn(7)
		if r.Intn(5) == 0 {
			n = 60
		}
		m := randomUnit(r)
		has, e := orbit.Contains(renumbered(grid(n, 0, 1), r.Perm(n)), m)
		wantBoth(t, fmt.Sprint("Contains of ", n, " and ", m), has, e, m.B%n == 0, api.OK)
		found[has]++
	}
	want(t, "some are in it, some are not", found[true] > 100 && found[false] > 100, true)
	for n := 1; n <= 60; n++ {
		for _, b := range []int{1000000, -1000000, 999999, 720720, 0} {
			has, e := orbit.Contains(grid(n, 0, 1), unit(1, b, 0, 1))
			wantBoth(t, fmt.Sprint("Contains of ", n, " and ", b), has, e, b%n == 0, api.OK)
			has, e = orbit.Contains(grid(n, 0, 1), unit(1, 0, b, 1))
			wantBoth(t, fmt.Sprint("Contains of ", n, " and ", b, " below"), has, e, true, api.OK)
		}
	}
}

// P7.5: Contains against the labels that words lead to.
func TestContains(t *testing.T) {
	r := rand.New(rand.NewSource(24))
	found := map[bool]int{}
	for _, o := range somePlaces() {
		for range 40 {
			w := randomWord(r, r.Intn(12))
			m, e := orbit.Matrix(w)
			if e != api.OK {
				continue
			}
			right := sameOrigami(label(actWord(o, w)), label(o))
			has, e := orbit.Contains(o, m)
			wantBoth(t, fmt.Sprint("Contains of ", o, w), has, e, right, api.OK)
			found[right]++
		}
	}
	want(t, "some are in it, some are not", found[true] > 50 && found[false] > 50, true)
	for m, e := range badUnits() {
		has, f := orbit.Contains(ell(), m)
		wantBoth(t, fmt.Sprint("Contains of ", m), has, f, false, e)
		has, f = orbit.Contains(splitOrigamis()[0], m)
		wantBoth(t, fmt.Sprint("Contains of what is not connected and ", m), has, f, false, api.ErrSplit)
	}
	for what, c := range badOrigamis() {
		has, f := orbit.Contains(c.o, api.Unit{})
		wantBoth(t, "Contains of "+what, has, f, false, c.e)
	}
}
