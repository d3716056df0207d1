package homology

import (
	"flatland/api"
	"flatland/origami"
)

// tiling is an origami that was checked, as a mesh of squares. Square i has the bottom edge i and the left edge n + i.
type tiling struct {
	mesh
	right, up, left, down []int
	corners               [][]int // the squares around each vertex, counterclockwise
}

// open checks an origami.
func open(o api.Origami) (*tiling, api.Errno) {
	corners, e := origami.Vertices(o)
	if e != api.OK {
		return nil, e
	}
	t := &tiling{right: o.Right, up: o.Up, left: inverse(o.Right), down: inverse(o.Up), corners: corners}
	t.mesh = t.cells()
	return t, api.OK
}

// squares returns the number of squares.
func (t *tiling) squares() int { return len(t.right) }

// side returns the left edge of a square.
func (t *tiling) side(i int) int { return t.squares() + i }

// vertexNumbers returns the number of the vertex that is the lower left corner of each square.
func (t *tiling) vertexNumbers() []int {
	numbers := make([]int, t.squares())
	for v, squares := range t.corners {
		for _, i := range squares {
			numbers[i] = v
		}
	}
	return numbers
}

// cells returns the mesh of the squares.
func (t *tiling) cells() mesh {
	n, vertex := t.squares(), t.vertexNumbers()
	m := mesh{vertices: len(t.corners), faces: n, edges: make([]edge, 2*n)}
	for i := range n {
		m.edges[i] = edge{begin: vertex[i], end: vertex[t.right[i]], left: i, right: t.down[i]}
		m.edges[t.side(i)] = edge{begin: vertex[i], end: vertex[t.up[i]], left: t.left[i], right: i}
	}
	return m
}

// holonomy returns the sums of the bottom and of the left numbers of a chain.
func (t *tiling) holonomy(c []int) [2]int {
	var sums [2]int
	for i := range t.squares() {
		sums[0] += c[i]
		sums[1] += c[t.side(i)]
	}
	return sums
}

// inverse returns the inverse of a permutation.
func inverse(p []int) []int {
	q := make([]int, len(p))
	for x, y := range p {
		q[y] = x
	}
	return q
}
