package surface

import (
	"flatland/api"
	"flatland/field"
)

// Next returns the next crossing.
func Next(s api.Surface, c api.Crossing) (api.Crossing, api.Errno) {
	b, c, e := start(s, c)
	if e == api.OK {
		c, e = b.next(c)
	}
	return c, e
}

// Line returns the next crossings 1 to n.
func Line(s api.Surface, c api.Crossing, n int) ([]api.Crossing, api.Errno) {
	b, c, e := start(s, c)
	if e != api.OK {
		return nil, e
	}
	if !within(n, 0, api.MaxHits) {
		return nil, api.ErrRange
	}
	var list []api.Crossing
	for range n {
		if c, e = b.next(c); e != api.OK {
			return list, e
		}
		list = append(list, c)
	}
	return list, api.OK
}

// start opens a surface and returns the normal form of a crossing, or the first error of both.
func start(s api.Surface, c api.Crossing) (*body, api.Crossing, api.Errno) {
	b, e := open(s)
	if e == api.OK && !b.has(c.At) {
		e = api.ErrMissing
	}
	if e == api.OK {
		c.T, c.Dir = b.Normal(c.T), b.normal(c.Dir)
		e = b.checkCrossing(c, b.edge(c.At))
	}
	if e != api.OK {
		return nil, api.Crossing{}, e
	}
	return b, c, api.OK
}

// checkCrossing returns the error of the place and the direction of a crossing on an edge.
func (p plane) checkCrossing(c api.Crossing, edge api.Vec) api.Errno {
	switch {
	case p.Sign(c.T) <= 0 || p.Cmp(c.T, field.Whole(1)) >= 0:
		return api.ErrRange
	case p.turn(edge, c.Dir) <= 0:
		return api.ErrForm
	}
	return api.OK
}

// next returns the crossing behind a valid one.
func (b *body) next(c api.Crossing) (api.Crossing, api.Errno) {
	edges := b.faces[c.At.Face]
	corners, _ := b.corners(edges)
	place := b.Sum(corners[c.At.Edge], b.Times(c.T, edges[c.At.Edge]))
	side := make([]int, len(edges)) // of the corners: 1 to the left of the line, 0 on it, -1 to its right
	for i, v := range corners {
		corners[i] = b.minus(v, place)
		side[i] = b.turn(c.Dir, corners[i])
	}
	// The line may leave the face, or touch its border, only where the border comes over from the right, or leaves to the left.
	hit := -1
	var least api.Num
	for i, edge := range edges {
		if j := (i + 1) % len(edges); side[i] > 0 || side[j] < 0 || side[i] == side[j] {
			continue
		}
		far := b.divide(b.Cross(corners[i], edge), b.Cross(c.Dir, edge))
		if b.Sign(far) > 0 && (hit < 0 || b.Cmp(far, least) < 0) {
			hit, least = i, far
		}
	}
	if side[hit] == 0 || side[(hit+1)%len(edges)] == 0 {
		return api.Crossing{}, api.ErrCorner
	}
	over := b.divide(b.Cross(corners[hit], c.Dir), b.Cross(c.Dir, edges[hit]))
	at := b.partner(api.Slot{Face: c.At.Face, Edge: hit})
	return api.Crossing{At: at, T: b.Sub(field.Whole(1), over), Dir: b.normal(c.Dir)}, api.OK
}
