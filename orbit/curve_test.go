package orbit_test

import (
	"fmt"
	"slices"
	"testing"

	"flatland/api"
	"flatland/orbit"
)

// wantCurve checks cusps, elliptic points and genus of an orbit against the pairs, and what follows.
func wantCurve(t *testing.T, what string, x api.Orbit) {
	t.Helper()
	cusps, e := orbit.Cusps(x)
	wantSame(t, "Cusps of "+what, sameCusps, cusps, e, cuspsBy(x), api.OK)
	two, three, e := orbit.Elliptic(x)
	wantBoth(t, "Elliptic of "+what, [2]int{two, three}, e, [2]int{fixedPairs(x, "S"), fixedPairs(x, "ST")}, api.OK)
	g, e := orbit.Genus(x)
	wantBoth(t, "Genus of "+what, g, e, genusBy(x), api.OK)
	want(t, "the genus is not negative", g >= 0, true)
	sum := 0
	level, e := orbit.Level(x)
	want(t, "Level of "+what, e, api.OK)
	for _, c := range cusps {
		sum += c.Width
		want(t, "the level of "+what+" is a multiple of the widths", level%c.Width, 0)
	}
	for p := 2; p <= 2000; p++ {
		if level%p > 0 {
			continue
		}
		least := true
		for _, c := range cusps {
			least = least && level/p%c.Width == 0
		}
		want(t, fmt.Sprint("a part of the level of ", what, " is one: ", level/p), least, false)
	}
	want(t, "the widths of "+what+" add up", sum, len(allPairs(x)))
}

// P7.4: the curves of the examples.
func TestExampleCurve(t *testing.T) {
	x := ellOrbit()
	c, e := orbit.Cusps(x)
	wantSame(t, "Cusps of the L", sameCusps, c, e, []api.Cusp{{Width: 2, Members: []int{0, 1}}, {Width: 1, Members: []int{2}}}, api.OK)
	two, three, e := orbit.Elliptic(x)
	wantBoth(t, "Elliptic of the L", [2]int{two, three}, e, [2]int{1, 0}, api.OK)
	g, e := orbit.Genus(x)
	wantBoth(t, "Genus of the L", g, e, 0, api.OK)
	l, e := orbit.Level(x)
	wantBoth(t, "Level of the L", l, e, 2, api.OK)
	x = orbitOf(t, torus())
	c, e = orbit.Cusps(x)
	wantSame(t, "Cusps of a square", sameCusps, c, e, []api.Cusp{{Width: 1, Members: []int{0}}}, api.OK)
	two, three, e = orbit.Elliptic(x)
	wantBoth(t, "Elliptic of a square", [2]int{two, three}, e, [2]int{1, 1}, api.OK)
	g, e = orbit.Genus(x)
	wantBoth(t, "Genus of a square", g, e, 0, api.OK)
	l, e = orbit.Level(x)
	wantBoth(t, "Level of a square", l, e, 1, api.OK)
}

// P7.4, P7.7: the curves of many orbits, with -1 in the Veech group and without it.
func TestCurves(t *testing.T) {
	found := map[bool]int{}
	for _, o := range slices.Concat(small(4), connectedOnes(19, 40, 7), oneSided()) {
		x := orbitOf(t, o)
		if len(x.Labels) > 250 {
			continue
		}
		wantCurve(t, fmt.Sprint(o), x)
		found[len(allPairs(x)) == len(x.Labels)]++
	}
	want(t, "some orbits have pairs of two members", found[false] >= len(oneSided()) && found[true] > 100, true)
}

// phi returns how many of 1, .., n have no divisor with n in common.
func phi(n int) int {
	count := 0
	for k := 1; k <= n; k++ {
		if gcdOf(k, n) == 1 {
			count++
		}
	}
	return count
}

func gcdOf(a, b int) int {
	d := min(a, b)
	for a%d > 0 || b%d > 0 {
		d--
	}
	return d
}

// roots returns how many of 0, .., n - 1 make x^2 + b x + 1 a multiple of n.
func roots(n, b int) int {
	count := 0
	for x := range n {
		if (x*x+b*x+1)%n == 0 {
			count++
		}
	}
	return count
}

// P7.4: the curves of rows of n squares, which are the modular curves of level n: their cusps, elliptic points and genera are known.
func TestModularCurves(t *testing.T) {
	genera := map[int]int{1: 0, 2: 0, 10: 0, 11: 1, 13: 0, 14: 1, 20: 1, 22: 2, 23: 2, 25: 0, 30: 3, 36: 1, 37: 2, 49: 1, 60: 7}
	for _, n := range append(identity(26)[1:], 30, 36, 37, 49, 60) {
		x := orbitOf(t, grid(n, 0, 1))
		count := 0
		for d := 1; d <= n; d++ {
			if n%d == 0 {
				count += phi(gcdOf(d, n/d))
			}
		}
		what := fmt.Sprint(" of a row of ", n)
		c, e := orbit.Cusps(x)
		wantBoth(t, "Cusps"+what, len(c), e, count, api.OK)
		two, three, e := orbit.Elliptic(x)
		wantBoth(t, "Elliptic"+what, [2]int{two, three}, e, [2]int{roots(n, 0), roots(n, 1)}, api.OK)
		g, e := orbit.Genus(x)
		if known, ok := genera[n]; ok {
			wantBoth(t, "Genus"+what, g, e, known, api.OK)
		}
		l, e := orbit.Level(x)
		wantBoth(t, "Level"+what, l, e, n, api.OK)
		if n <= 20 {
			wantCurve(t, "a row", x)
		}
	}
}

// P7.4: a curve of high genus and level.
func TestLargeCurve(t *testing.T) {
	x := orbitOf(t, long(3, 21))
	l, e := orbit.Level(x)
	wantBoth(t, "Level", l, e, 1338557220, api.OK)
	c, e := orbit.Cusps(x)
	wantSame(t, "Cusps", sameCusps, c, e, cuspsBy(x), api.OK)
}
