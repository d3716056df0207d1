package origami

import (
	"slices"

	"flatland/api"
)

// checkPermutation returns an error if a list is no permutation of 0, 1, ..
func checkPermutation(p []int) api.Errno {
	if slices.ContainsFunc(p, func(x int) bool { return !within(x, 0, len(p)-1) }) {
		return api.ErrRange
	}
	seen := make([]bool, len(p))
	for _, x := range p {
		if seen[x] {
			return api.ErrForm
		}
		seen[x] = true
	}
	return api.OK
}

// inverse returns the inverse of a permutation.
func inverse(p []int) []int {
	q := make([]int, len(p))
	for x, y := range p {
		q[y] = x
	}
	return q
}

// product returns the permutation that makes first a step of p, then one of q.
func product(p, q []int) []int {
	r := make([]int, len(p))
	for x, y := range p {
		r[x] = q[y]
	}
	return r
}

// cycle returns the cycle of a permutation from an element on.
func cycle(p []int, first int) []int {
	list := []int{first}
	for x := p[first]; x != first; x = p[x] {
		list = append(list, x)
	}
	return list
}

// cycles returns the cycles of a permutation, each from its least element on.
func cycles(p []int) [][]int {
	var list [][]int
	done := make([]bool, len(p))
	for first := range p {
		if done[first] {
			continue
		}
		c := cycle(p, first)
		for _, x := range c {
			done[x] = true
		}
		list = append(list, c)
	}
	return list
}

// gcd returns the greatest common divisor, which is not negative.
func gcd(a, b int) int {
	for b != 0 {
		a, b = b, a%b
	}
	return max(a, -a)
}
