package homology

import (
	"flatland/api"
	"flatland/field"
	"flatland/surface"
)

// body is a surface that was checked, as a mesh, with the least slot of each edge.
type body struct {
	mesh
	from  api.Surface
	slots []api.Slot
}

// openSurface checks a surface.
func openSurface(s api.Surface) (*body, api.Errno) {
	vertices, e := surface.Vertices(s)
	if e != api.OK {
		return nil, e
	}
	vertex := map[api.Slot]int{} // of the corners
	for v, corners := range vertices {
		for _, at := range corners {
			vertex[at] = v
		}
	}
	b := &body{mesh: mesh{vertices: len(vertices), faces: len(s.Faces)}, from: s}
	for f, edges := range s.Faces {
		for i := range edges {
			at := api.Slot{Face: f, Edge: i}
			if at != b.least(at) {
				continue
			}
			next := api.Slot{Face: f, Edge: (i + 1) % len(edges)}
			b.edges = append(b.edges, edge{begin: vertex[at], end: vertex[next], left: f, right: s.Glue[f][i].Face})
			b.slots = append(b.slots, at)
		}
	}
	return b, api.OK
}

// least returns the least slot of the edge of a slot.
func (b *body) least(at api.Slot) api.Slot {
	to := b.from.Glue[at.Face][at.Edge]
	if to.Face < at.Face || to.Face == at.Face && to.Edge < at.Edge {
		return to
	}
	return at
}

// periods returns the sum of the vectors of the edges, each times its number in a chain.
func (b *body) periods(c []int) api.Vec {
	r, _ := field.Open(b.from.Field)
	sum := api.Vec{X: field.Whole(0), Y: field.Whole(0)}
	for i, x := range c {
		at := b.slots[i]
		if x != 0 {
			sum = r.Sum(sum, r.Times(field.Whole(x), b.from.Faces[at.Face][at.Edge]))
		}
	}
	return sum
}

// boundaries returns the boundaries of the edges, by vertices, and those of the faces, by edges.
func (b *body) boundaries() (edges, faces [][]int) {
	for _, e := range b.edges {
		row := make([]int, b.vertices)
		row[e.end]++
		row[e.begin]--
		edges = append(edges, row)
	}
	for f := range b.faces {
		faces = append(faces, b.around(f))
	}
	return edges, faces
}
