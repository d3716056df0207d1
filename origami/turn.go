package origami

import (
	"slices"

	"flatland/api"
)

// turned returns the origami that is turned by half a turn.
func turned(o api.Origami) api.Origami {
	return api.Origami{Right: inverse(o.Right), Up: inverse(o.Up)}
}

// toward returns the origami in which the direction (p, q) has become (1, 0); p and q have no common divisor.
func toward(o api.Origami, p, q int) api.Origami {
	o = api.Origami{Right: slices.Clone(o.Right), Up: slices.Clone(o.Up)}
	for q != 0 {
		k := floor(p, q)
		o = sheared(o, k)
		p -= k * q
		o.Right, o.Up = o.Up, inverse(o.Right)
		p, q = q, -p
	}
	if p < 0 {
		return turned(o)
	}
	return o
}

// sheared returns the origami in which a step upwards is followed by k steps to the right.
func sheared(o api.Origami, k int) api.Origami {
	step := o.Right
	if k < 0 {
		step, k = inverse(step), -k
	}
	for range k {
		o.Up = product(o.Up, step)
	}
	return o
}

// floor returns p divided by q, rounded down.
func floor(p, q int) int {
	k := p / q
	if p%q != 0 && (p < 0) != (q < 0) {
		k--
	}
	return k
}

// halfTurns returns all half turns of a connected origami.
func halfTurns(o api.Origami) [][]int { return slices.Collect(mapsTo(o, turned(o))) }

// fixedSides returns how many centres of squares and midpoints of edges a half turn fixes.
func fixedSides(o api.Origami, f []int) (squares, edges int) {
	for x, y := range f {
		if y == x {
			squares++
		}
		for _, z := range neighbours(o, x) {
			if y == z {
				edges++
			}
		}
	}
	return squares, edges
}

// fixedVertices returns how many vertices a half turn fixes.
func fixedVertices(o api.Origami, f []int) int {
	n := 0
	corner := corners(o)
	for i, squares := range vertices(o) {
		// The upper right corner of a square is the lower left one of the square above its right neighbour.
		if image := f[squares[0]]; corner[o.Up[o.Right[image]]] == i {
			n++
		}
	}
	return n
}
