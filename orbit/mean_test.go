package orbit_test

import (
	"fmt"
	"math/rand"
	"testing"

	"flatland/api"
	"flatland/orbit"
	"flatland/origami"
)

// frac returns a fraction.
func frac(num, den int) api.Frac { return api.Frac{Num: num, Den: den} }

// P7.6: the means and sums of the examples.
func TestExampleMean(t *testing.T) {
	m, e := orbit.Mean(ellOrbit())
	wantBoth(t, "Mean of the L", m, e, frac(10, 9), api.OK)
	m, e = orbit.Lyapunov(ell())
	wantBoth(t, "Lyapunov of the L", m, e, frac(4, 3), api.OK)
	m, e = orbit.Mean(orbitOf(t, torus()))
	wantBoth(t, "Mean of a square", m, e, frac(1, 1), api.OK)
	m, e = orbit.Lyapunov(torus())
	wantBoth(t, "Lyapunov of a square", m, e, frac(1, 1), api.OK)
}

// P7.6, P7.7: means and sums by the definitions; in strata in which it is the same for all origamis the sum is the known one.
func TestLyapunov(t *testing.T) {
	known := map[string]api.Frac{
		"[]":  frac(1, 1),
		"[2]": frac(4, 3), "[1 1]": frac(3, 2),
		"[3 1]": frac(7, 4),
	}
	// With one vertex of genus 3 there are two kinds of surfaces.
	four := []api.Frac{frac(9, 5), frac(8, 5)}
	found := map[string]int{}
	r := rand.New(rand.NewSource(25))
	list := append(small(4), oneSided()...)
	list = append(list, connectedOnes(26, 60, 9)...)
	for _, o := range list {
		x, e := orbit.Enumerate(o)
		if e != api.OK || len(x.Labels) > 300 && r.Intn(5) > 0 {
			continue
		}
		m, e := orbit.Mean(x)
		wantBoth(t, fmt.Sprint("Mean of ", o), m, e, fracOf(meanBy(x)), api.OK)
		l, e := orbit.Lyapunov(renumbered(o, r.Perm(len(o.Right))))
		wantBoth(t, fmt.Sprint("Lyapunov of ", o), l, e, fracOf(lyapunovBy(x)), api.OK)
		orders, _ := origami.Stratum(o)
		for len(orders) > 0 && orders[len(orders)-1] == 0 {
			orders = orders[:len(orders)-1]
		}
		stratum := fmt.Sprint(orders)
		found[stratum]++
		if f, ok := known[stratum]; ok {
			want(t, fmt.Sprint("Lyapunov in the stratum ", stratum, " of ", o), l, f)
		}
		if stratum == "[4]" {
			want(t, fmt.Sprint("Lyapunov in the stratum ", stratum, ": ", l), l == four[0] || l == four[1], true)
		}
	}
	for _, stratum := range []string{"[]", "[2]", "[1 1]", "[3 1]", "[4]"} {
		want(t, fmt.Sprint("some are in the stratum ", stratum), found[stratum] > 1, true)
	}
	// One exponent is 1, all others are 0.
	l, e := orbit.Lyapunov(quaternions())
	wantBoth(t, "Lyapunov of the quaternions", l, e, frac(1, 1), api.OK)
}

// P7.6: twenty squares are not too many, 21 are.
func TestManySquares(t *testing.T) {
	for _, o := range []api.Origami{long(2, 19), grid(20, 3, 1), grid(4, 1, 5)} {
		x := orbitOf(t, o)
		m, e := orbit.Mean(x)
		wantBoth(t, "Mean of twenty squares", m, e, fracOf(meanBy(x)), api.OK)
		m, e = orbit.Lyapunov(o)
		wantBoth(t, "Lyapunov of twenty squares", m, e, fracOf(lyapunovBy(x)), api.OK)
	}
	m, e := orbit.Lyapunov(long(2, 19))
	wantBoth(t, "Lyapunov of an L of twenty squares", m, e, frac(4, 3), api.OK)
	for _, o := range []api.Origami{long(2, 20), grid(21, 0, 1), grid(60, 0, 1)} {
		m, e := orbit.Mean(orbitOf(t, o))
		wantBoth(t, "Mean of more squares", m, e, api.Frac{}, api.ErrLarge)
		m, e = orbit.Lyapunov(o)
		wantBoth(t, "Lyapunov of more squares", m, e, api.Frac{}, api.ErrLarge)
	}
	r := rand.New(rand.NewSource(27))
	for _, n := range []int{20, 60} {
		m, e = orbit.Lyapunov(squares(append(identity(n)[1:], 0), r.Perm(n)))
		wantBoth(t, "Lyapunov of a large orbit", m, e, api.Frac{}, api.ErrLarge)
	}
}
