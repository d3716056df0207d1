package homology

import "slices"

// edge is an edge of a mesh: the vertices at its beginning and its end, and the faces on its left and its right side.
type edge struct{ begin, end, left, right int }

// mesh is an oriented surface that is cut into faces.
type mesh struct {
	vertices, faces int // how many
	edges           []edge
}

// boundary returns the boundary of a chain, by vertices.
func (m *mesh) boundary(c []int) []int {
	sums := make([]int, m.vertices)
	for i, e := range m.edges {
		sums[e.end] += c[i]
		sums[e.begin] -= c[i]
	}
	return sums
}

// around returns the boundary of a face, by edges. (A face lies on the left side of the edges along which one goes around it.)
func (m *mesh) around(face int) []int {
	c := make([]int, len(m.edges))
	for i, e := range m.edges {
		if e.left == face {
			c[i]++
		}
		if e.right == face {
			c[i]--
		}
	}
	return c
}

// betti returns the ranks of the homology: the two outer ones are the number of parts, and the alternating sum is that of the numbers of cells.
func (m *mesh) betti() [3]int {
	parts := spread(m.faces, m.across(), func(step) {})
	return [3]int{parts, 2*parts + len(m.edges) - m.vertices - m.faces, parts}
}

// step leads along an edge to a vertex, or across it to a face; its sign is -1 if it leads against the edge, or across it from its left to its right side.
type step struct{ edge, sign, from, to int }

// across returns the steps across all edges.
func (m *mesh) across() []step {
	var steps []step
	for i, e := range m.edges {
		steps = append(steps, step{i, 1, e.right, e.left}, step{i, -1, e.left, e.right})
	}
	return steps
}

// along returns the steps along the edges that are open.
func (m *mesh) along(isOpen func(edge int) bool) []step {
	var steps []step
	for i, e := range m.edges {
		if isOpen(i) {
			steps = append(steps, step{i, 1, e.begin, e.end}, step{i, -1, e.end, e.begin})
		}
	}
	return steps
}

// spread goes from the least one of the nodes of each part to all others, and hands over the steps by which it comes to a node for the first time. It returns the number of parts.
func spread(nodes int, steps []step, reach func(s step)) (parts int) {
	leaving := make([][]step, nodes)
	for _, s := range steps {
		leaving[s.from] = append(leaving[s.from], s)
	}
	known := make([]bool, nodes)
	for first := range nodes {
		if known[first] {
			continue
		}
		parts++
		known[first] = true
		for work := slices.Clone(leaving[first]); len(work) > 0; work = work[1:] {
			if s := work[0]; !known[s.to] {
				known[s.to] = true
				reach(s)
				work = append(work, leaving[s.to]...)
			}
		}
	}
	return parts
}
