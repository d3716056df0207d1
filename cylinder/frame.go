package cylinder

import (
	"cmp"

	"flatland/api"
	"flatland/field"
	"flatland/surface"
)

// Directions are told in eighths of a full turn, counterclockwise: these four are the even numbers, all directions between two of them are the odd number between.
const (
	ahead = 0
	up    = 2
	back  = 4
	down  = 6
	whole = 8
)

// body is a checked surface in the frame of a direction: X counts how often the direction goes along, and Y is the height.
type body struct {
	*field.Real
	frame  api.Mat // it takes vectors to the frame; its determinant is 1
	square api.Num // the squared length of the direction
	faces  [][]corner
	glue   [][]api.Slot
	rays   []api.Slot // the corners at which they begin
	number map[api.Slot]int
}

// corner is a corner of a face, and the edge that begins there.
type corner struct {
	at   api.Vec // as it is seen from the beginning of edge 0
	over api.Vec // what a place on the edge has more in this face than in the one behind the edge
	edge int     // the direction of the edge, in eighths
	span int     // the sector has, of the four directions, those by less than so many eighths counterclockwise from the edge
}

// openDirection opens the field of a surface, and returns the squared length of a direction; the surface is checked only if the direction is 0.
func openDirection(s api.Surface, d api.Vec) (*field.Real, api.Num, api.Errno) {
	r, e := field.Open(s.Field)
	if e != api.OK {
		return nil, api.Num{}, e
	}
	square := r.Add(r.Mul(d.X, d.X), r.Mul(d.Y, d.Y))
	if r.Sign(square) == 0 {
		return nil, api.Num{}, cmp.Or(surface.Check(s), api.ErrZero)
	}
	return r, square, api.OK
}

// open checks a surface and a direction, and finds the rays.
func open(s api.Surface, d api.Vec) (*body, api.Errno) {
	r, square, e := openDirection(s, d)
	if e != api.OK {
		return nil, e
	}
	b := &body{Real: r, square: square, number: map[api.Slot]int{}}
	unit, _ := r.Quo(field.Whole(1), square)
	along := r.Times(unit, d)
	b.frame = api.Mat{A: along.X, B: along.Y, C: b.minus(d.Y), D: d.X}
	s, e = surface.Apply(s, b.frame)
	if e != api.OK {
		return nil, e
	}
	b.glue = s.Glue
	for _, edges := range s.Faces {
		b.faces = append(b.faces, b.corners(edges))
	}
	b.compareFaces()
	for f, l := range b.faces {
		for e := range l {
			if c := (api.Slot{Face: f, Edge: e}); b.contains(c, ahead) {
				b.number[c] = len(b.rays)
				b.rays = append(b.rays, c)
			}
		}
	}
	return b, api.OK
}

// corners returns the corners of a face; what is behind the edges is not known there.
func (b *body) corners(edges []api.Vec) []corner {
	list := make([]corner, len(edges))
	at := api.Vec{}
	for i, v := range edges {
		list[i] = corner{at: at, edge: eighths(b.Sign(v.X), b.Sign(v.Y))}
		at = b.Sum(at, v)
	}
	for i, v := range edges {
		j := (i + len(edges) - 1) % len(edges)
		list[i].span = (list[j].edge + back - list[i].edge + whole) % whole
		// If both edges lie between the same two directions, the sector has none of the four, or all of them.
		if list[i].span == 0 && b.Sign(b.Cross(edges[j], v)) < 0 {
			list[i].span = whole
		}
	}
	return list
}

// compareFaces finds out how places on edges change when they are seen from the other side.
func (b *body) compareFaces() {
	for f, l := range b.faces {
		for e := range l {
			to := b.along(b.glue[f][e], 1)
			l[e].over = b.Sum(l[e].at, b.Times(field.Whole(-1), b.corner(to).at))
		}
	}
}

// eighths returns the direction of a vector whose X and Y have these signs.
func eighths(x, y int) int {
	switch {
	case y > 0:
		return up - x
	case y < 0:
		return down + x
	case x < 0:
		return back
	}
	return ahead
}

// minus returns -x.
func (b *body) minus(x api.Num) api.Num { return b.Sub(api.Num{}, x) }

// has reports whether there is such a slot.
func (b *body) has(c api.Slot) bool {
	return within(c.Face, 0, len(b.faces)-1) && within(c.Edge, 0, len(b.faces[c.Face])-1)
}

// corner returns a corner.
func (b *body) corner(c api.Slot) corner { return b.faces[c.Face][c.Edge] }

// partner returns the slot to which a slot is glued.
func (b *body) partner(c api.Slot) api.Slot { return b.glue[c.Face][c.Edge] }

// along returns the slot that comes k edges behind another one in its face; k is not below -1.
func (b *body) along(c api.Slot, k int) api.Slot {
	n := len(b.faces[c.Face])
	c.Edge = (c.Edge + k + n) % n
	return c
}

// after returns the next corner counterclockwise around a vertex.
func (b *body) after(c api.Slot) api.Slot { return b.partner(b.along(c, -1)) }

// before returns the next corner clockwise around a vertex.
func (b *body) before(c api.Slot) api.Slot { return b.along(b.partner(c), 1) }

// from returns by how many eighths a direction is counterclockwise from the edge of a corner.
func (c corner) from(direction int) int { return (direction - c.edge + whole) % whole }

// contains reports whether the sector of a corner contains one of the four directions.
func (b *body) contains(c api.Slot, direction int) bool {
	x := b.corner(c)
	return x.from(direction) < x.span
}

// search returns the first corner, from the one behind c on, whose sector contains one of the four directions.
func (b *body) search(c api.Slot, direction int, next func(c api.Slot) api.Slot) api.Slot {
	for c = next(c); !b.contains(c, direction); {
		c = next(c)
	}
	return c
}

// counterclockwise returns the corner in which one first meets a direction, turning counterclockwise from another one in the sector of c.
func (b *body) counterclockwise(c api.Slot, from, to int) api.Slot {
	if x := b.corner(c); x.from(to) > x.from(from) && b.contains(c, to) {
		return c
	}
	return b.search(c, to, b.after)
}

// clockwise returns the corner in which one first meets a direction, turning clockwise from another one in the sector of c.
func (b *body) clockwise(c api.Slot, from, to int) api.Slot {
	if x := b.corner(c); x.from(to) < x.from(from) {
		return c
	}
	return b.search(c, to, b.before)
}

// upright returns the body, turned so that the direction up, or else the direction down, becomes that ahead. (The rays are not those of this direction.)
func (b *body) upright(isUp bool) *body {
	x := &body{Real: b.Real, glue: b.glue}
	turned := api.Mat{B: field.Whole(1), C: field.Whole(-1)}
	direction := up
	if !isUp {
		turned.B, turned.C = turned.C, turned.B
		direction = down
	}
	for _, l := range b.faces {
		list := make([]corner, len(l))
		for i, c := range l {
			list[i] = corner{at: b.Apply(turned, c.at), over: b.Apply(turned, c.over), edge: (c.edge - direction + whole) % whole, span: c.span}
		}
		x.faces = append(x.faces, list)
	}
	return x
}

// isInside reports whether a place is strictly inside of its face.
func (b *body) isInside(p api.Spot) bool {
	list := b.faces[p.Face]
	inside := false
	for i, c := range list {
		from, to := c.at, list[(i+1)%len(list)].at
		low, high := b.Cmp(from.Y, p.At.Y), b.Cmp(to.Y, p.At.Y)
		switch {
		case low == 0 && high == 0:
			if b.Cmp(from.X, p.At.X)*b.Cmp(to.X, p.At.X) <= 0 {
				return false
			}
		case low*high <= 0:
			// An edge that begins or ends at the height of the place counts as if the place were a little higher.
			side := b.Cmp(b.level(from, to, p.At.Y), p.At.X)
			if side == 0 {
				return false
			}
			if side > 0 && (low > 0) != (high > 0) {
				inside = !inside
			}
		}
	}
	return inside
}

// level returns where the straight line through two places has a height.
func (b *body) level(from, to api.Vec, height api.Num) api.Num {
	part, _ := b.Quo(b.Sub(height, from.Y), b.Sub(to.Y, from.Y))
	return b.Add(from.X, b.Mul(part, b.Sub(to.X, from.X)))
}
