package surface

import (
	"slices"

	"flatland/api"
)

// Triangulate returns the surface with its faces cut into triangles.
func Triangulate(s api.Surface) (api.Surface, api.Errno) { return changed(s, (*body).triangulate) }

// Flip replaces an edge of a triangulated surface by the other diagonal.
func Flip(s api.Surface, at api.Slot) (api.Surface, api.Errno) {
	return changed(s, func(b *body) api.Errno {
		switch {
		case !b.isTriangulated():
			return api.ErrShape
		case !b.has(at):
			return api.ErrMissing
		case !b.canFlip(at):
			return api.ErrForm
		}
		b.flip(at)
		return api.OK
	})
}

// IsDelaunay reports whether a triangulated surface is a Delaunay triangulation.
func IsDelaunay(s api.Surface) (bool, api.Errno) {
	b, e := openTriangles(s)
	if e != api.OK {
		return false, e
	}
	for at := range b.slots() {
		if b.opposite(at) > 0 {
			return false, api.OK
		}
	}
	return true, api.OK
}

// Delaunay returns a Delaunay triangulation of a surface.
func Delaunay(s api.Surface) (api.Surface, api.Errno) { return changed(s, (*body).delaunay) }

// triangulate cuts the faces into triangles, or returns an error if there would be too many.
func (b *body) triangulate() api.Errno {
	sum := 0
	for _, edges := range b.faces {
		sum += len(edges) - 2
	}
	if sum > api.MaxFaces {
		return api.ErrLarge
	}
	for f := range b.faces {
		for len(b.faces[f]) > 3 {
			k := api.Slot{Face: f, Edge: b.ear(b.faces[f])}
			b.cut(b.along(k, 1), b.along(k, -1))
		}
	}
	return api.OK
}

// isTriangulated reports whether every face has three edges.
func (b *body) isTriangulated() bool {
	return !slices.ContainsFunc(b.faces, func(edges []api.Vec) bool { return len(edges) > 3 })
}

// around returns the slots of the edges b and c of the triangle of a slot, and b' and c' of its partner's.
func (b *body) around(at api.Slot) (right, left, back, front api.Slot) {
	to := b.partner(at)
	return b.along(at, 1), b.along(at, 2), b.along(to, 1), b.along(to, 2)
}

// canFlip reports whether an edge is between two triangles that make a strictly convex quadrilateral.
func (b *body) canFlip(at api.Slot) bool {
	right, left, back, front := b.around(at)
	return right.Face != back.Face && b.turn(b.edge(left), b.edge(back)) > 0 && b.turn(b.edge(front), b.edge(right)) > 0
}

// flip replaces an edge between two triangles by the other diagonal.
func (b *body) flip(at api.Slot) {
	n := len(b.faces)
	right, left, back, front := b.around(at)
	side, other := b.seam(b.Sum(b.edge(front), b.edge(right)))
	b.rearrange(part{left.Face, []api.Slot{side, left, back}}, part{front.Face, []api.Slot{other, front, right}})
	b.keep(n)
}

// opposite returns where the corner on the other side of an edge is: 1 inside of the circle through the corners of the triangle on this side, 0 on it, or -1 outside.
func (b *body) opposite(at api.Slot) int {
	right, _, back, front := b.around(at)
	end := b.edge(front)
	return b.circle([3]api.Vec{b.negative(b.edge(back)), end, b.Sum(end, b.edge(right))})
}

// delaunay makes a Delaunay triangulation of the surface.
func (b *body) delaunay() api.Errno {
	if e := b.triangulate(); e != api.OK {
		return e
	}
	var work []api.Slot
	for at := range b.slots() {
		work = append(work, at)
	}
	for len(work) > 0 {
		at := work[len(work)-1]
		work = work[:len(work)-1]
		if b.opposite(at) <= 0 {
			continue
		}
		other := b.partner(at).Face
		b.flip(at)
		// The four edges around have new triangles, and new places: what was to be done at their old ones is done there.
		for _, f := range [2]int{at.Face, other} {
			work = append(work, api.Slot{Face: f, Edge: 1}, api.Slot{Face: f, Edge: 2})
		}
	}
	return api.OK
}
