package billiard

import (
	"iter"
	"slices"

	"flatland/api"
)

// The bounds of Types: the length of a code, and the number of codes of this length.
const (
	maxType  = 8
	maxCodes = 10000
)

// Stable reports whether each number stands in a code as often at even as at odd places.
func Stable(code []int) bool {
	more := map[int]int{} // at even places than at odd ones
	for k, i := range code {
		if k%2 == 0 {
			more[i]++
		} else {
			more[i]--
		}
	}
	if len(code)%2 == 1 {
		// In the code twice, what stands at an even place stands at an odd one as well.
		clear(more)
	}
	for _, n := range more {
		if n != 0 {
			return false
		}
	}
	return len(code) > 0
}

// Periodic returns a state that comes back after a code.
func Periodic(t api.Table, code []int) (api.State, api.Errno) {
	b, e := openCode(t, code)
	if e != api.OK {
		return api.State{}, e
	}
	s, ok := b.periodic(code)
	if !ok {
		return api.State{}, api.ErrNone
	}
	return s, api.OK
}

// Types returns the periodic codes of at most n elements, one of all rotations.
func Types(t api.Table, n int) ([][]int, api.Errno) {
	b, e := open(t)
	if e != api.OK {
		return nil, e
	}
	if !within(n, 0, maxType) {
		return nil, api.ErrRange
	}
	if power(len(b.sides), n) > maxCodes {
		return nil, api.ErrLarge
	}
	var types [][]int
	for length := 2; length <= n; length += 2 {
		for code := range codes(len(b.sides), length) {
			if !isFirst(code) {
				continue
			}
			if _, ok := b.periodic(code); ok {
				types = append(types, slices.Clone(code))
			}
		}
	}
	return types, api.OK
}

// periodic returns the state in the middle of the strip of a code that brings it back, if there is one.
func (b *board) periodic(code []int) (api.State, bool) {
	n := len(code)
	if n == 0 || n%2 == 1 || repeats(code) {
		return api.State{}, false
	}
	last := b.copies(code)[n]
	if !sameMat(last.Linear, identity()) {
		return api.State{}, false
	}
	c := leaving(code[n-1], last.Shift)
	v, ok := b.beam(c, code, func(c chord, v beam) bool {
		next, e := b.next(api.State{Side: c.from, T: b.along(c, b.middle(v)), Dir: c.dir})
		return e == api.OK && next.Side == c.to
	})
	if !ok {
		return api.State{}, false
	}
	return api.State{Side: c.from, T: b.along(c, b.middle(v)), Dir: c.dir}, true
}

// repeats reports whether a code, gone around, has the same element twice in a row: no straight line meets a side again at once.
func repeats(code []int) bool {
	last := code[len(code)-1]
	for _, i := range code {
		if i == last {
			return true
		}
		last = i
	}
	return false
}

// isFirst reports whether a code with an even number of elements is not greater than its rotations, and not the repetition of a shorter one with an even number of elements.
func isFirst(code []int) bool {
	for k := 1; k < len(code); k++ {
		order := slices.Compare(code, slices.Concat(code[k:], code[:k]))
		if order > 0 || order == 0 && k%2 == 0 {
			return false
		}
	}
	return true
}

// codes yields all lists of so many numbers below a bound, lexicographically; the same list is written again each time.
func codes(bound, length int) iter.Seq[[]int] {
	return func(yield func([]int) bool) {
		code := make([]int, length)
		for yield(code) {
			k := length - 1
			for k >= 0 && code[k] == bound-1 {
				code[k] = 0
				k--
			}
			if k < 0 {
				return
			}
			code[k]++
		}
	}
}

// power returns x^n.
func power(x, n int) int {
	p := 1
	for range n {
		p *= x
	}
	return p
}
