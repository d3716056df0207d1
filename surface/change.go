package surface

import (
	"slices"

	"flatland/api"
)

// part is a face that gets new edges: slots of the surface as it was.
type part struct {
	face  int
	slots []api.Slot
}

// rearrange gives faces the edges of their parts. What these faces were made of and is in no part is taken away; no edge that stays may be glued to it.
func (b *body) rearrange(parts ...part) {
	moved := map[api.Slot]api.Slot{}
	for _, p := range parts {
		for e, old := range p.slots {
			moved[old] = api.Slot{Face: p.face, Edge: e}
		}
	}
	faces, glue := make([][]api.Vec, len(parts)), make([][]api.Slot, len(parts))
	for i, p := range parts {
		for e, old := range p.slots {
			to := b.partner(old)
			if place, ok := moved[to]; ok {
				to = place
			} else {
				b.glue[to.Face][to.Edge] = api.Slot{Face: p.face, Edge: e}
			}
			faces[i] = append(faces[i], b.edge(old))
			glue[i] = append(glue[i], to)
		}
	}
	for i, p := range parts {
		b.faces[p.face], b.glue[p.face] = faces[i], glue[i]
	}
}

// seam adds a face of no area with two edges, v and -v, that are glued to each other: both sides of a diagonal, to be moved to their places. It returns both.
func (b *body) seam(v api.Vec) (side, other api.Slot) {
	n := len(b.faces)
	side, other = api.Slot{Face: n}, api.Slot{Face: n, Edge: 1}
	b.faces = append(b.faces, []api.Vec{v, b.negative(v)})
	b.glue = append(b.glue, []api.Slot{other, side})
	return side, other
}

// keep takes all faces behind the first n away.
func (b *body) keep(n int) { b.faces, b.glue = b.faces[:n], b.glue[:n] }

// between returns the slots of a face from one up to the one before another one; all of them, if they are the same.
func (b *body) between(from, to api.Slot) []api.Slot {
	list := []api.Slot{from}
	for at := b.along(from, 1); at != to; at = b.along(at, 1) {
		list = append(list, at)
	}
	return list
}

// vectors returns the edges of slots.
func (b *body) vectors(slots []api.Slot) []api.Vec {
	list := make([]api.Vec, len(slots))
	for i, at := range slots {
		list[i] = b.edge(at)
	}
	return list
}

// diagonal returns the vector from the end of a chain of edges to its beginning.
func (b *body) diagonal(chain []api.Slot) api.Vec {
	_, end := b.corners(b.vectors(chain))
	return b.negative(end)
}

// cut cuts a face along the diagonal between two of its corners that are not neighbours.
func (b *body) cut(from, to api.Slot) {
	first, second := b.between(from, to), b.between(to, from)
	side, other := b.seam(b.diagonal(first))
	b.rearrange(part{from.Face, append(first, side)}, part{side.Face, append(second, other)})
}

// Apply returns the surface with all edges mapped by a matrix.
func Apply(s api.Surface, m api.Mat) (api.Surface, api.Errno) {
	return changed(s, func(b *body) api.Errno {
		if b.Cmp(b.Mul(m.A, m.D), b.Mul(m.B, m.C)) <= 0 {
			return api.ErrZero
		}
		for _, edges := range b.faces {
			for i, v := range edges {
				edges[i] = b.Apply(m, v)
			}
		}
		return api.OK
	})
}

// Cut cuts a face along a diagonal.
func Cut(s api.Surface, from, to api.Slot) (api.Surface, api.Errno) {
	return changed(s, func(b *body) api.Errno {
		if e := b.checkCut(from, to); e != api.OK {
			return e
		}
		b.cut(from, to)
		return api.OK
	})
}

// checkCut returns the error of a cut.
func (b *body) checkCut(from, to api.Slot) api.Errno {
	switch {
	case !b.has(from) || !b.has(to):
		return api.ErrMissing
	case from.Face != to.Face || from == to || b.along(from, 1) == to || b.along(to, 1) == from:
		return api.ErrShape
	}
	for _, chain := range [][]api.Slot{b.between(from, to), b.between(to, from)} {
		if !b.isRight(append(b.vectors(chain), b.diagonal(chain))) {
			return api.ErrForm
		}
	}
	if len(b.faces) == api.MaxFaces {
		return api.ErrLarge
	}
	return api.OK
}

// Join joins the two faces at an edge.
func Join(s api.Surface, at api.Slot) (api.Surface, api.Errno) {
	return changed(s, func(b *body) api.Errno {
		if !b.has(at) {
			return api.ErrMissing
		}
		to := b.partner(at)
		if to.Face == at.Face {
			return api.ErrForm
		}
		joined := slices.Concat(b.between(b.along(at, 1), at), b.between(b.along(to, 1), to))
		if len(joined) > api.MaxEdges {
			return api.ErrLarge
		}
		if !b.isRight(b.vectors(joined)) {
			return api.ErrForm
		}
		b.rearrange(part{at.Face, joined})
		b.leaveOut(to.Face)
		return api.OK
	})
}

// leaveOut takes away a face to which no other one is glued.
func (b *body) leaveOut(face int) {
	b.faces, b.glue = slices.Delete(b.faces, face, face+1), slices.Delete(b.glue, face, face+1)
	for at := range b.slots() {
		if to := &b.glue[at.Face][at.Edge]; to.Face > face {
			to.Face--
		}
	}
}
