package surface

import (
	"iter"
	"slices"

	"flatland/api"
	"flatland/field"
)

// body is a surface that was checked, or is made from one: its vectors are in normal form, and its lists are its own.
type body struct {
	plane
	faces [][]api.Vec
	glue  [][]api.Slot
}

// open checks a surface.
func open(s api.Surface) (*body, api.Errno) {
	r, e := field.Open(s.Field)
	switch {
	case e != api.OK:
		return nil, e
	case len(s.Faces) == 0:
		return nil, api.ErrShape
	case len(s.Faces) > api.MaxFaces:
		return nil, api.ErrLarge
	case len(s.Glue) != len(s.Faces):
		return nil, api.ErrShape
	}
	b := &body{plane: plane{r}}
	for f, edges := range s.Faces {
		if e := b.add(edges, s.Glue[f]); e != api.OK {
			return nil, e
		}
	}
	for at := range b.slots() {
		if e := b.checkGlue(at); e != api.OK {
			return nil, e
		}
	}
	return b, api.OK
}

// openWhole checks a surface that has to have one component.
func openWhole(s api.Surface) (*body, api.Errno) {
	b, e := open(s)
	if e == api.OK && b.isSplit() {
		return nil, api.ErrSplit
	}
	return b, e
}

// openTriangles checks a surface that has to be triangulated.
func openTriangles(s api.Surface) (*body, api.Errno) {
	b, e := open(s)
	if e == api.OK && !b.isTriangulated() {
		return nil, api.ErrShape
	}
	return b, e
}

// add adds a face with its partners, or returns the error of the face.
func (b *body) add(edges []api.Vec, partners []api.Slot) api.Errno {
	switch {
	case len(edges) < 3:
		return api.ErrShape
	case len(edges) > api.MaxEdges:
		return api.ErrLarge
	case len(partners) != len(edges):
		return api.ErrShape
	}
	face := make([]api.Vec, len(edges))
	for i, v := range edges {
		face[i] = b.normal(v)
	}
	if !b.isRight(face) {
		return api.ErrForm
	}
	b.faces = append(b.faces, face)
	b.glue = append(b.glue, slices.Clone(partners))
	return api.OK
}

// checkGlue returns the error of the partner of a slot.
func (b *body) checkGlue(at api.Slot) api.Errno {
	to := b.partner(at)
	switch {
	case !b.has(to):
		return api.ErrMissing
	case to == at || b.partner(to) != at || !isZero(b.Sum(b.edge(at), b.edge(to))):
		return api.ErrGlue
	}
	return api.OK
}

// surface returns the surface; it shares no memory with the body.
func (b *body) surface() api.Surface {
	s := api.Surface{Field: b.Field()}
	for f, edges := range b.faces {
		face := make([]api.Vec, len(edges))
		for i, v := range edges {
			face[i] = b.normal(v)
		}
		s.Faces = append(s.Faces, face)
		s.Glue = append(s.Glue, slices.Clone(b.glue[f]))
	}
	return s
}

// slots yields all slots, face by face.
func (b *body) slots() iter.Seq[api.Slot] {
	return func(yield func(api.Slot) bool) {
		for f, edges := range b.faces {
			for e := range edges {
				if !yield(api.Slot{Face: f, Edge: e}) {
					return
				}
			}
		}
	}
}

// has reports whether there is such a slot.
func (b *body) has(at api.Slot) bool {
	return within(at.Face, 0, len(b.faces)-1) && within(at.Edge, 0, len(b.faces[at.Face])-1)
}

// edge returns the vector of a slot.
func (b *body) edge(at api.Slot) api.Vec { return b.faces[at.Face][at.Edge] }

// partner returns the slot to which a slot is glued.
func (b *body) partner(at api.Slot) api.Slot { return b.glue[at.Face][at.Edge] }

// along returns the slot that comes k edges behind another one in its face; k may be negative.
func (b *body) along(at api.Slot, k int) api.Slot {
	n := len(b.faces[at.Face])
	at.Edge = ((at.Edge+k)%n + n) % n
	return at
}

// area returns the area of all faces.
func (b *body) area() api.Num {
	sum := field.Whole(0)
	for _, edges := range b.faces {
		corners, _ := b.corners(edges)
		sum = b.Add(sum, b.doubleArea(corners))
	}
	return b.divide(sum, field.Whole(2))
}

// components returns the number of the component of each face.
func (b *body) components() []int {
	number := make([]int, len(b.faces))
	for f := range number {
		number[f] = -1
	}
	count := 0
	for f := range number {
		if number[f] < 0 {
			b.mark(f, count, number)
			count++
		}
	}
	return number
}

// mark gives the component of a face a number.
func (b *body) mark(face, count int, number []int) {
	number[face] = count
	work := []int{face}
	for len(work) > 0 {
		f := work[len(work)-1]
		work = work[:len(work)-1]
		for _, to := range b.glue[f] {
			if number[to.Face] < 0 {
				number[to.Face] = count
				work = append(work, to.Face)
			}
		}
	}
}

// isSplit reports whether there is more than one component.
func (b *body) isSplit() bool { return slices.Max(b.components()) > 0 }

// vertices returns the corners of each vertex.
func (b *body) vertices() [][]api.Slot {
	var list [][]api.Slot
	done := map[api.Slot]bool{}
	for first := range b.slots() {
		if done[first] {
			continue
		}
		var cycle []api.Slot
		for at := first; !done[at]; at = b.partner(b.along(at, -1)) {
			done[at] = true
			cycle = append(cycle, at)
		}
		list = append(list, cycle)
	}
	return list
}

// angles returns the angle of each vertex: how many of its corners point to the right.
func (b *body) angles() []int {
	right := api.Vec{X: field.Whole(1)}
	var list []int
	for _, cycle := range b.vertices() {
		n := 0
		for _, at := range cycle {
			if b.inSector(b.edge(at), b.negative(b.edge(b.along(at, -1))), right) {
				n++
			}
		}
		list = append(list, n)
	}
	return list
}
