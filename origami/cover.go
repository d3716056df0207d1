package origami

import (
	"iter"
	"slices"

	"flatland/api"
)

// unknown is the image of a square that has none yet.
const unknown = -1

// mapsTo yields the coverings of a connected origami by another one, in the order of the images of square 0. (All squares of b are images, because they are reached from one that is.)
func mapsTo(a, b api.Origami) iter.Seq[[]int] {
	return func(yield func([]int) bool) {
		for first := range b.Right {
			if f, ok := mapTo(a, b, first); ok && !yield(f) {
				return
			}
		}
	}
}

// mapTo returns the covering that takes square 0 to the first square, if there is one.
func mapTo(a, b api.Origami, first int) ([]int, bool) {
	f := slices.Repeat([]int{unknown}, len(a.Right))
	f[0] = first
	for work := []int{0}; len(work) > 0; work = work[1:] {
		x := work[0]
		images := neighbours(b, f[x])
		for i, y := range neighbours(a, x) {
			if f[y] == unknown {
				f[y] = images[i]
				work = append(work, y)
			}
			if f[y] != images[i] {
				return nil, false
			}
		}
	}
	return f, true
}

// areSquares reports whether all elements of a list are squares of an origami.
func areSquares(f []int, o api.Origami) bool {
	return !slices.ContainsFunc(f, func(x int) bool { return !within(x, 0, len(o.Right)-1) })
}

// isCovering reports whether a list of one square of b for each square of a is a covering.
func isCovering(a, b api.Origami, f []int) bool {
	covered := map[int]bool{}
	for x, y := range f {
		covered[y] = true
		images := neighbours(b, y)
		for i, z := range neighbours(a, x) {
			if f[z] != images[i] {
				return false
			}
		}
	}
	return len(covered) == len(b.Right)
}

// automorphisms returns all automorphisms.
func automorphisms(o api.Origami) [][]int { return slices.Collect(mapsTo(o, o)) }

// quotient returns the origami of the classes of squares that automorphisms take to each other, and the class of each square.
func quotient(o api.Origami) (q api.Origami, class []int) {
	class = slices.Repeat([]int{unknown}, len(o.Right))
	var first []int // the least square of each class
	list := automorphisms(o)
	for x := range class {
		if class[x] != unknown {
			continue
		}
		for _, f := range list {
			class[f[x]] = len(first)
		}
		first = append(first, x)
	}
	for _, x := range first {
		var next [2]int
		for i, y := range neighbours(o, x) {
			next[i] = class[y]
		}
		q = with(q, next)
	}
	return q, class
}
