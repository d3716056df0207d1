package orbit

import (
	"slices"

	"flatland/api"
	"flatland/origami"
)

// step is a letter, and what it makes of an origami.
type step struct {
	letter byte
	act    func(o api.Origami) api.Origami
}

// stepsForward returns the steps of S and T, which lead to all members of an orbit.
func stepsForward() []step {
	return []step{{'S', turned}, {'T', func(o api.Origami) api.Origami { return sheared(o, 1) }}}
}

// stepsBack returns the steps of the inverse letters.
func stepsBack() []step {
	return []step{{'s', turnedBack}, {'t', func(o api.Origami) api.Origami { return sheared(o, -1) }}}
}

// act returns the origami that a word makes of another one.
func act(o api.Origami, w string) api.Origami {
	o = api.Origami{Right: slices.Clone(o.Right), Up: slices.Clone(o.Up)}
	steps := slices.Concat(stepsForward(), stepsBack())
	for i := len(w) - 1; i >= 0; i-- {
		k := slices.IndexFunc(steps, func(s step) bool { return s.letter == w[i] })
		o = steps[k].act(o)
	}
	return o
}

// turned returns the origami that is turned by a quarter, counterclockwise.
func turned(o api.Origami) api.Origami { return api.Origami{Right: inverse(o.Up), Up: o.Right} }

// turnedBack returns the origami that is turned by a quarter, clockwise.
func turnedBack(o api.Origami) api.Origami { return api.Origami{Right: o.Up, Up: inverse(o.Right)} }

// sheared returns the origami to which k times T takes another one.
func sheared(o api.Origami, k int) api.Origami {
	return api.Origami{Right: o.Right, Up: product(o.Up, power(o.Right, -k))}
}

// moved returns an origami to which a matrix takes another one. It is divided from the right, where the letters stand that act first; the divisions are rounded towards 0, so that there are few of them.
func moved(o api.Origami, m api.Unit) api.Origami {
	for m.C != 0 {
		k := m.D / m.C
		o = turned(sheared(o, k))
		m = api.Unit{A: k*m.A - m.B, B: m.A, C: k*m.C - m.D, D: m.C}
	}
	if m.A < 0 {
		o, m = turned(turned(o)), minus(m)
	}
	return sheared(o, m.B)
}

// inverse returns the inverse of a permutation.
func inverse(p []int) []int {
	q := make([]int, len(p))
	for x, y := range p {
		q[y] = x
	}
	return q
}

// product returns the permutation that makes first a step of p, then one of q.
func product(p, q []int) []int {
	r := make([]int, len(p))
	for x, y := range p {
		r[x] = q[y]
	}
	return r
}

// power returns the permutation that makes k steps of p, or -k steps back.
func power(p []int, k int) []int {
	q := make([]int, len(p))
	cycles, _ := origami.Cycles(p)
	for _, c := range cycles {
		n := len(c)
		for i, x := range c {
			q[x] = c[((i+k)%n+n)%n]
		}
	}
	return q
}
