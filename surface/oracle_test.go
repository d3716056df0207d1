package surface_test

import (
	"math/big"

	"flatland/api"
)

// The tests compare the package, over the fractions, with what follows here: polygons and straight lines by the definitions alone, with math/big.

type point struct{ x, y *big.Rat }

func add(a, b *big.Rat) *big.Rat { return new(big.Rat).Add(a, b) }
func sub(a, b *big.Rat) *big.Rat { return new(big.Rat).Sub(a, b) }
func mul(a, b *big.Rat) *big.Rat { return new(big.Rat).Mul(a, b) }
func quo(a, b *big.Rat) *big.Rat { return new(big.Rat).Quo(a, b) }

func whole(n int64) *big.Rat { return big.NewRat(n, 1) }

func (p point) minus(q point) point    { return point{sub(p.x, q.x), sub(p.y, q.y)} }
func (p point) plus(q point) point     { return point{add(p.x, q.x), add(p.y, q.y)} }
func (p point) dot(q point) *big.Rat   { return add(mul(p.x, q.x), mul(p.y, q.y)) }
func (p point) cross(q point) *big.Rat { return sub(mul(p.x, q.y), mul(p.y, q.x)) }
func (p point) is(q point) bool        { return p.x.Cmp(q.x) == 0 && p.y.Cmp(q.y) == 0 }
func pointOf(v api.Vec) point          { return point{rat(v.X), rat(v.Y)} }

func (p point) times(f *big.Rat) point { return point{mul(f, p.x), mul(f, p.y)} }

// ring is the corners of a polygon.
type ring []point

func (g ring) corner(i int) point { return g[(i+len(g))%len(g)] }

// ringOf returns the corners of a face, the first one at 0, and where its last edge ends.
func ringOf(edges []api.Vec) (ring, point) {
	at := point{whole(0), whole(0)}
	var g ring
	for _, v := range edges {
		g = append(g, at)
		at = at.plus(pointOf(v))
	}
	return g, at
}

// between reports whether p is on the segment from a to b.
func between(p, a, b point) bool {
	return b.minus(a).cross(p.minus(a)).Sign() == 0 && p.minus(a).dot(p.minus(b)).Sign() <= 0
}

// meet reports whether two segments have a point in common: an end of one on the other one, or each one's ends on both sides of the other one.
func meet(a, b, c, d point) bool {
	if between(a, c, d) || between(b, c, d) || between(c, a, b) || between(d, a, b) {
		return true
	}
	e, f := b.minus(a), d.minus(c)
	return e.cross(c.minus(a)).Sign()*e.cross(d.minus(a)).Sign() < 0 && f.cross(a.minus(c)).Sign()*f.cross(b.minus(c)).Sign() < 0
}

// isRight reports whether a face is right.
func isRight(edges []api.Vec) bool {
	g, end := ringOf(edges)
	if !end.is(g[0]) {
		return false
	}
	for i, p := range g {
		next, behind := g.corner(i+1), g.corner(i+2)
		if p.is(next) || between(p, next, behind) || between(behind, p, next) {
			return false
		}
		for j := i + 2; j < len(g); j++ {
			if (j+1)%len(g) != i && meet(p, next, g[j], g.corner(j+1)) {
				return false
			}
		}
	}
	return g.area().Sign() > 0
}

// area returns the area: the sum of the trapezoids below the edges.
func (g ring) area() *big.Rat {
	sum := new(big.Rat)
	for i, p := range g {
		q := g.corner(i + 1)
		sum.Add(sum, mul(sub(p.x, q.x), add(p.y, q.y)))
	}
	return quo(sum, whole(2))
}

// centre returns the centre of the circle through three points.
func centre(a, b, c point) point {
	u, v := b.minus(a), c.minus(a)
	d := mul(whole(2), u.cross(v))
	uu, vv := u.dot(u), v.dot(v)
	return a.plus(point{quo(sub(mul(v.y, uu), mul(u.y, vv)), d), quo(sub(mul(u.x, vv), mul(v.x, uu)), d)})
}

// square returns the squared distance of two points.
func square(p, q point) *big.Rat { return p.minus(q).dot(p.minus(q)) }

// partner returns the slot to which a slot is glued.
func partner(s api.Surface, at api.Slot) api.Slot { return s.Glue[at.Face][at.Edge] }

func edge(s api.Surface, at api.Slot) api.Vec { return s.Faces[at.Face][at.Edge] }

// behind returns the slot that comes k edges behind another one.
func behind(s api.Surface, at api.Slot, k int) api.Slot {
	n := len(s.Faces[at.Face])
	return slot(at.Face, (at.Edge+k+n)%n)
}

// opposite compares, for an edge between two faces, how far the corners of the other face (but for both ends of the edge) are from the centre of the circle through three corners of this one: 1 if one of them is inside, -1 if all are outside, and otherwise 0.
func opposite(s api.Surface, at api.Slot) int {
	to := partner(s, at)
	begin := point{whole(0), whole(0)}
	end := pointOf(edge(s, at))
	c := centre(begin, end, end.plus(pointOf(edge(s, behind(s, at, 1)))))
	radius, where := square(c, begin), -1
	p := begin
	for k := 1; k < len(s.Faces[to.Face])-1; k++ {
		p = p.plus(pointOf(edge(s, behind(s, to, k))))
		where = max(where, radius.Cmp(square(c, p)))
	}
	return where
}

// next returns the next crossing, by going through all edges of the face.
func next(s api.Surface, c api.Crossing) (api.Crossing, api.Errno) {
	g, _ := ringOf(s.Faces[c.At.Face])
	dir := pointOf(c.Dir)
	at := g[c.At.Edge].plus(pointOf(edge(s, c.At)).times(rat(c.T)))
	var least, place *big.Rat
	hit := 0
	for i, p := range g {
		e := g.corner(i + 1).minus(p)
		d := dir.cross(e)
		if i == c.At.Edge || d.Sign() == 0 {
			continue
		}
		far, on := quo(p.minus(at).cross(e), d), quo(p.minus(at).cross(dir), d)
		if far.Sign() > 0 && on.Sign() >= 0 && on.Cmp(whole(1)) <= 0 && (least == nil || far.Cmp(least) < 0) {
			least, place, hit = far, on, i
		}
	}
	if place.Sign() == 0 || place.Cmp(whole(1)) == 0 {
		return api.Crossing{}, api.ErrCorner
	}
	return api.Crossing{At: partner(s, slot(c.At.Face, hit)), T: numOf(sub(whole(1), place)), Dir: c.Dir}, api.OK
}

// arrive follows the straight line with the vector v from a corner of a triangulated surface, in whose sector v is. It returns the corner at its end, if there is a vertex, and none before.
func arrive(s api.Surface, from api.Slot, v point) (api.Slot, bool) {
	right := pointOf(edge(s, from))
	if v.cross(right).Sign() == 0 {
		return partner(s, from), v.is(right)
	}
	at := behind(s, from, 1)
	left := right.plus(pointOf(edge(s, at)))
	for {
		// The line meets the edge after so many times v.
		if far := quo(right.cross(left.minus(right)), v.cross(left.minus(right))); far.Cmp(whole(1)) >= 0 {
			return api.Slot{}, false
		}
		at = behind(s, partner(s, at), 1)
		third := right.plus(pointOf(edge(s, at)))
		switch v.cross(third).Sign() {
		case 0:
			return behind(s, at, 1), v.is(third)
		case 1:
			left = third
		case -1:
			at, right = behind(s, at, 1), third
		}
	}
}
