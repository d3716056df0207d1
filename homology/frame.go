package homology

import "slices"

// frame divides the edges of a mesh into three kinds: the bridges lead across edges from the first face of each part to all others, the paths go along other edges from the first vertex of each part to all others, and the loops are the edges that are left over. Each loop, closed by paths, is a cycle, and these cycles are a basis: every cycle is made 0 on the bridges by boundaries of faces, and then consists of them, as its numbers on the loops say.
type frame struct {
	mesh
	bridges []step
	paths   [][]int // chains, by the vertices at their ends
	loops   []int
}

// newFrame returns a frame of a mesh.
func newFrame(m mesh) *frame {
	f := &frame{mesh: m, paths: make([][]int, m.vertices)}
	isUsed := make([]bool, len(m.edges))
	spread(m.faces, m.across(), func(s step) {
		isUsed[s.edge] = true
		f.bridges = append(f.bridges, s)
	})
	for i := range f.paths {
		f.paths[i] = make([]int, len(m.edges))
	}
	rest := m.along(func(edge int) bool { return !isUsed[edge] })
	spread(m.vertices, rest, func(s step) {
		isUsed[s.edge] = true
		copy(f.paths[s.to], f.paths[s.from])
		f.paths[s.to][s.edge] += s.sign
	})
	for i, used := range isUsed {
		if !used {
			f.loops = append(f.loops, i)
		}
	}
	return f
}

// basis returns the cycles of the loops. Their numbers are -1, 0 and 1.
func (f *frame) basis() [][]int {
	var list [][]int
	for _, i := range f.loops {
		e := f.edges[i]
		c := plus(f.paths[e.begin], -1, f.paths[e.end])
		c[i]++
		list = append(list, c)
	}
	return list
}

// cleared returns a chain less the boundaries of faces that make it 0 on the bridges, and the multiples of these boundaries: 0 for the first face of each part.
func (f *frame) cleared(c []int) (rest, multiples []int) {
	multiples = make([]int, f.faces)
	for _, s := range f.bridges {
		multiples[s.to] = multiples[s.from] + s.sign*c[s.edge]
	}
	rest = slices.Clone(c)
	for i, e := range f.edges {
		rest[i] -= multiples[e.left] - multiples[e.right]
	}
	return rest, multiples
}

// coordinates returns the multiples of the cycles of the loops of which a cycle is homologous to the sum.
func (f *frame) coordinates(c []int) []int {
	rest, _ := f.cleared(c)
	list := make([]int, len(f.loops))
	for k, i := range f.loops {
		list[k] = rest[i]
	}
	return list
}

// bounds returns the multiples of the boundaries of faces of which a chain is the sum, if it is one.
func (f *frame) bounds(c []int) ([]int, bool) {
	rest, multiples := f.cleared(c)
	if !isZero(rest) {
		return nil, false
	}
	return multiples, true
}
