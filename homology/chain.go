package homology

import (
	"slices"

	"flatland/api"
)

// isChain returns the check that a list is a chain.
func isChain(c []int) func(t *tiling) api.Errno {
	return func(t *tiling) api.Errno { return t.checkChain(c) }
}

// isCycle returns the check that a list is a cycle.
func isCycle(c []int) func(t *tiling) api.Errno {
	return func(t *tiling) api.Errno { return t.checkCycle(c) }
}

// areCycles returns the check that lists are cycles.
func areCycles(list [][]int) func(t *tiling) api.Errno {
	return func(t *tiling) api.Errno { return t.checkCycles(list) }
}

// checkChain returns the error of a chain.
func (m *mesh) checkChain(c []int) api.Errno {
	switch {
	case len(c) != len(m.edges):
		return api.ErrShape
	case !areWithin(c, api.MaxChain):
		return api.ErrRange
	}
	return api.OK
}

// checkCycle returns the error of a cycle.
func (m *mesh) checkCycle(c []int) api.Errno {
	e := m.checkChain(c)
	if e == api.OK && !isZero(m.boundary(c)) {
		return api.ErrForm
	}
	return e
}

// checkCycles returns the error of a list of cycles.
func (m *mesh) checkCycles(list [][]int) api.Errno {
	if len(list) > api.MaxRows {
		return api.ErrLarge
	}
	for _, c := range list {
		if e := m.checkCycle(c); e != api.OK {
			return e
		}
	}
	return api.OK
}

// areWithin reports whether all numbers are from -limit to limit.
func areWithin(list []int, limit int) bool {
	return !slices.ContainsFunc(list, func(x int) bool { return x < -limit || x > limit })
}

// isZero reports whether all numbers are 0.
func isZero(list []int) bool { return areWithin(list, 0) }

// plus returns a + k b.
func plus(a []int, k int, b []int) []int {
	c := slices.Clone(a)
	for i, x := range b {
		c[i] += k * x
	}
	return c
}

// dot returns the sum of the products of the numbers of two lists.
func dot(a, b []int) int {
	sum := 0
	for i, x := range a {
		sum += x * b[i]
	}
	return sum
}
