package surface

import (
	"cmp"
	"slices"

	"flatland/api"
)

// view is what is seen from a corner, which is the origin, through an edge that leads from right to left: the directions between low and high.
type view struct {
	from, edge  api.Slot // the edge is the slot on the near side
	right, left api.Vec
	low, high   api.Vec
}

// Segments returns all segments whose squared length is at most square.
func Segments(s api.Surface, square api.Num) ([]api.Segment, api.Errno) {
	b, e := openTriangles(s)
	if e != api.OK {
		return nil, e
	}
	var list []api.Segment
	var work []view
	add := func(from, to api.Slot, v api.Vec) {
		if b.Cmp(b.dot(v, v), square) <= 0 {
			list = append(list, api.Segment{From: from, To: to, Vector: b.normal(v)})
		}
	}
	look := func(v view) {
		if b.isNear(v, square) {
			work = append(work, v)
		}
	}
	for at := range b.slots() {
		add(at, b.partner(at), b.edge(at))
		look(b.ahead(at))
	}
	// All views go on by one edge before one of them goes on by two: if there are too many segments, this shows before long numbers come up.
	for len(work) > 0 && len(list) <= api.MaxSegments {
		v := work[0]
		work = work[1:]
		b.beyond(v, add, look)
	}
	if len(list) > api.MaxSegments {
		return nil, api.ErrLarge
	}
	slices.SortFunc(list, b.compareSegments)
	return list, api.OK
}

// ahead returns the view from a corner to the opposite edge of its triangle.
func (b *body) ahead(from api.Slot) view {
	right, left := b.edge(from), b.negative(b.edge(b.along(from, 2)))
	return view{from: from, edge: b.along(from, 1), right: right, left: left, low: right, high: left}
}

// beyond adds the segment to the corner behind the edge of a view, if it is seen, and looks through the other two edges there.
func (b *body) beyond(v view, add func(from, to api.Slot, v api.Vec), look func(v view)) {
	entry := b.partner(v.edge)
	far := b.Sum(v.right, b.edge(b.along(entry, 1)))
	right, left := v, v
	right.edge, right.left = b.along(entry, 1), far
	left.edge, left.right = b.along(entry, 2), far
	switch {
	case b.turn(v.low, far) <= 0:
		look(left)
	case b.turn(far, v.high) <= 0:
		look(right)
	default:
		add(v.from, left.edge, far)
		right.high, left.low = far, far
		look(right)
		look(left)
	}
}

// isNear reports whether the squared distance of what is seen of the edge of a view is less than square; if not, all that is behind the edge is too far away.
func (b *body) isNear(v view, square api.Num) bool {
	edge := b.minus(v.left, v.right)
	nearest := api.Vec{X: edge.Y, Y: b.Sub(api.Num{}, edge.X)} // at a right angle
	switch {
	case b.Sign(b.dot(v.low, edge)) > 0:
		nearest = v.low
	case b.Sign(b.dot(v.high, edge)) < 0:
		nearest = v.high
	}
	// The line in this direction meets the edge after height/over times its vector.
	height, over := b.Cross(v.right, v.left), b.Cross(nearest, edge)
	return b.Cmp(b.Mul(b.dot(nearest, nearest), b.Mul(height, height)), b.Mul(square, b.Mul(over, over))) < 0
}

// compareSegments compares two segments by their corners, and those of one corner counterclockwise.
func (b *body) compareSegments(x, y api.Segment) int {
	return cmp.Or(compareSlots(x.From, y.From), b.turn(y.Vector, x.Vector))
}

// compareSlots compares two slots by their faces, and then by their edges.
func compareSlots(a, b api.Slot) int {
	return cmp.Or(cmp.Compare(a.Face, b.Face), cmp.Compare(a.Edge, b.Edge))
}
