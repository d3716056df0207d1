package cylinder_test

import (
	"math/big"
	"slices"

	"flatland/api"
)

// The tests compare the package, over the fractions, with what follows here: straight lines in polygons, and turns around vertices, by the definitions alone, with math/big.

type point struct{ x, y *big.Rat }

func add(a, b *big.Rat) *big.Rat { return new(big.Rat).Add(a, b) }
func sub(a, b *big.Rat) *big.Rat { return new(big.Rat).Sub(a, b) }
func mul(a, b *big.Rat) *big.Rat { return new(big.Rat).Mul(a, b) }
func quo(a, b *big.Rat) *big.Rat { return new(big.Rat).Quo(a, b) }

func whole(n int64) *big.Rat { return big.NewRat(n, 1) }

func (p point) minus(q point) point    { return point{sub(p.x, q.x), sub(p.y, q.y)} }
func (p point) plus(q point) point     { return point{add(p.x, q.x), add(p.y, q.y)} }
func (p point) dot(q point) *big.Rat   { return add(mul(p.x, q.x), mul(p.y, q.y)) }
func (p point) cross(q point) *big.Rat { return sub(mul(p.x, q.y), mul(p.y, q.x)) }
func (p point) times(f *big.Rat) point { return point{mul(f, p.x), mul(f, p.y)} }
func (p point) negative() point        { return p.times(whole(-1)) }

// points reports whether p and q have the same direction.
func (p point) points(q point) bool { return p.cross(q).Sign() == 0 && p.dot(q).Sign() > 0 }

func pointOf(v api.Vec) point { return point{rat(v.X), rat(v.Y)} }

// meets reports whether v is met when one turns counterclockwise from one direction (included) to another one (not included).
func meets(from, to, v point) bool {
	if from.points(v) || to.points(v) {
		return from.points(v)
	}
	switch from.cross(to).Sign() {
	case 1:
		return from.cross(v).Sign() > 0 && v.cross(to).Sign() > 0
	case -1:
		return to.cross(v).Sign() <= 0 || v.cross(from).Sign() <= 0
	}
	return from.cross(v).Sign() > 0
}

// world is a surface and a direction.
type world struct {
	s     api.Surface
	d, up point
	rings [][]point // the corners of the faces
	rays  []api.Slot
}

func worldOf(s api.Surface, d api.Vec) *world {
	w := &world{s: s, d: pointOf(d)}
	w.up = point{sub(whole(0), w.d.y), w.d.x}
	for f, edges := range s.Faces {
		at := point{whole(0), whole(0)}
		var ring []point
		for e, v := range edges {
			ring = append(ring, at)
			at = at.plus(pointOf(v))
			if c := slot(f, e); w.sees(c, w.d) {
				w.rays = append(w.rays, c)
			}
		}
		w.rings = append(w.rings, ring)
	}
	return w
}

func (w *world) edge(c api.Slot) point { return pointOf(w.s.Faces[c.Face][c.Edge]) }

func (w *world) end(c api.Slot) point { return w.edge(w.behind(c, -1)).negative() }

func (w *world) partner(c api.Slot) api.Slot { return w.s.Glue[c.Face][c.Edge] }

func (w *world) behind(c api.Slot, k int) api.Slot {
	n := len(w.s.Faces[c.Face])
	return slot(c.Face, (c.Edge+k+n)%n)
}

// sees reports whether a direction is in the sector of a corner.
func (w *world) sees(c api.Slot, v point) bool { return meets(w.edge(c), w.end(c), v) }

// stretch is what a straight line does in a face: it goes on at an edge, or ends at a corner.
type stretch struct {
	face     int
	from, to point
	edge     int
	corner   bool
}

// step follows a straight line up to the border of a face, by going through all edges.
func (w *world) step(f int, at, dir point) stretch {
	ring := w.rings[f]
	var least *big.Rat
	x := stretch{face: f, from: at}
	try := func(far *big.Rat, edge int, corner bool) {
		if far.Sign() > 0 && (least == nil || far.Cmp(least) < 0 || far.Cmp(least) == 0 && corner) {
			least, x.edge, x.corner = far, edge, corner
		}
	}
	for i, p := range ring {
		e := ring[(i+1)%len(ring)].minus(p)
		if v := p.minus(at); v.cross(dir).Sign() == 0 {
			try(quo(v.dot(dir), dir.dot(dir)), i, true)
		}
		if c := dir.cross(e); c.Sign() != 0 {
			if on := quo(p.minus(at).cross(dir), c); on.Sign() > 0 && on.Cmp(whole(1)) < 0 {
				try(quo(p.minus(at).cross(e), c), i, false)
			}
		}
	}
	x.to = at.plus(dir.times(least))
	return x
}

// walk follows a straight line for at most n crossings, or to a corner.
func (w *world) walk(f int, at, dir point, n int) []stretch {
	var list []stretch
	for range n + 1 {
		x := w.step(f, at, dir)
		list = append(list, x)
		if x.corner {
			break
		}
		to := w.partner(slot(f, x.edge))
		// The end of the partner is where the edge begins.
		at = x.to.minus(w.rings[f][x.edge]).plus(w.rings[to.Face][w.behind(to, 1).Edge])
		f = to.Face
	}
	return list
}

// leave follows a straight line from a corner whose sector contains its direction; last is the corner at which it ends, if it does.
func (w *world) leave(c api.Slot, dir point, n int) (list []stretch, last api.Slot, ends bool) {
	at := w.rings[c.Face][c.Edge]
	list = w.walk(c.Face, at, dir, n)
	x := list[len(list)-1]
	last = slot(x.face, x.edge)
	if w.edge(c).points(dir) {
		last = w.partner(c)
	}
	return list, last, x.corner
}

// length returns the T of stretches.
func (w *world) length(l []stretch) *big.Rat {
	sum := whole(0)
	for _, x := range l {
		sum = add(sum, quo(x.to.minus(x.from).dot(w.d), w.d.dot(w.d)))
	}
	return sum
}

// traces returns the traces up to a bound, of rays that cross few edges.
func (w *world) traces(bound *big.Rat) []api.Ray {
	var list []api.Ray
	for _, c := range w.rays {
		l, to, ends := w.leave(c, w.d, 400)
		x := api.Ray{From: c, Open: true}
		if t := w.length(l); ends && t.Cmp(bound) <= 0 {
			x = api.Ray{From: c, To: to, T: numOf(t)}
		}
		list = append(list, x)
	}
	return list
}

// glance is one occurrence of a direction around a vertex.
type glance struct {
	c   api.Slot
	dir point
}

// around returns the occurrences of two directions around a vertex, counterclockwise, from the corner c on.
func (w *world) around(c api.Slot, a, b point) []glance {
	var list []glance
	for at := c; ; {
		here := []point{a, b}
		// Of two directions in a sector the one is first that is met on the way to the other one.
		if w.sees(at, b) && meets(w.edge(at), a, b) && !w.edge(at).points(a) {
			here = []point{b, a}
		}
		for _, v := range here {
			if w.sees(at, v) {
				list = append(list, glance{at, v})
			}
		}
		if at = w.partner(w.behind(at, -1)); at == c {
			return list
		}
	}
}

// turn returns the corner in which b is first met, turning from a in the sector of c; counterclockwise, if by is 1, clockwise, if it is -1.
func (w *world) turn(c api.Slot, a, b point, by int) api.Slot {
	l := w.around(c, a, b)
	i := slices.IndexFunc(l, func(g glance) bool { return g.c == c && g.dir.points(a) })
	for i += len(l); ; {
		i += by
		if g := l[i%len(l)]; g.dir.points(b) {
			return g.c
		}
	}
}

// successors returns the successors of rays, left ones for -1, right ones for 1.
func (w *world) successors(l []api.Ray, by int) []int {
	var list []int
	for _, x := range l {
		k := -1
		if !x.Open {
			k = slices.Index(w.rays, w.turn(x.To, w.d.negative(), w.d, by))
		}
		list = append(list, k)
	}
	return list
}

// chord is a part of a closed ray in a face; t is its T at its beginning.
type chord struct {
	ray      int
	from, to point
	t        *big.Rat
}

// chords returns the parts of all closed rays, by their faces.
func (w *world) chords(l []api.Ray) map[int][]chord {
	list := map[int][]chord{}
	for i, x := range l {
		if x.Open {
			continue
		}
		parts, _, _ := w.leave(x.From, w.d, 400)
		for k, p := range parts {
			c := chord{i, p.from, p.to, w.length(parts[:k])}
			list[p.face] = append(list[p.face], c)
			if w.edge(x.From).points(w.d) {
				// The same edge is part of the face on the other side.
				to := w.partner(x.From)
				c.from, c.to = w.rings[to.Face][w.behind(to, 1).Edge], w.rings[to.Face][to.Edge]
				list[to.Face] = append(list[to.Face], c)
			}
		}
	}
	return list
}

// landing is where a line across meets a ray: at t along it, so high above (or below) its beginning.
type landing struct {
	ray       int
	t, height *big.Rat
}

// land follows stretches straight up (or down) to the first chord or corner; none if they end before. If the first place counts too, chords there are met.
func (w *world) land(parts []stretch, list map[int][]chord, first bool, foot func() int) (landing, bool) {
	total := whole(0)
	size := func(v point) *big.Rat { return new(big.Rat).Abs(w.d.cross(v)) }
	for _, p := range parts {
		best := landing{ray: -1}
		for _, c := range list[p.face] {
			// The place of the chord that is straight above or below.
			at := quo(p.from.minus(c.from).dot(w.d), w.d.dot(w.d))
			place := c.from.plus(w.d.times(at))
			height := size(place.minus(p.from))
			toward := place.minus(p.from).dot(p.to.minus(p.from)).Sign()
			past := height.Cmp(size(p.to.minus(p.from)))
			if at.Sign() < 0 || place.minus(c.to).dot(w.d).Sign() > 0 || toward < 0 || toward == 0 && !first || past > 0 || past == 0 && p.corner {
				continue
			}
			if best.ray < 0 || height.Cmp(best.height) < 0 {
				best = landing{c.ray, add(c.t, at), height}
			}
		}
		if best.ray >= 0 {
			best.height = add(best.height, total)
			return best, true
		}
		total = add(total, size(p.to.minus(p.from)))
		if p.corner {
			return landing{foot(), whole(0), total}, true
		}
	}
	return landing{}, false
}

// cycles returns the closed cycles of successors, the least numbers first.
func cycles(next []int) [][]int {
	var list [][]int
	for i := range next {
		c := []int{i}
		for k := next[i]; k > i; k = next[k] {
			c = append(c, k)
		}
		if next[c[len(c)-1]] == i {
			list = append(list, c)
		}
	}
	return list
}

// sum returns the sum of the T of rays.
func sum(l []api.Ray, rays []int) *big.Rat {
	t := whole(0)
	for _, i := range rays {
		t = add(t, rat(l[i].T))
	}
	return t
}

// modulo returns x less a whole multiple of t, from 0 to less than t.
func modulo(x, t *big.Rat) *big.Rat {
	q := quo(x, t)
	n := new(big.Int).Div(q.Num(), q.Denom())
	return sub(x, mul(t, new(big.Rat).SetInt(n)))
}

// area returns the area of the surface.
func (w *world) area() *big.Rat {
	a := whole(0)
	for _, ring := range w.rings {
		for i, p := range ring {
			a = add(a, p.cross(ring[(i+1)%len(ring)]))
		}
	}
	return quo(a, whole(2))
}

// decompose returns the decomposition for a bound.
func (w *world) decompose(bound *big.Rat) api.Decomposition {
	sides := cycles(w.successors(w.traces(bound), -1))
	for _, below := range sides {
		if t := sum(w.traces(bound), below); t.Cmp(bound) > 0 {
			bound = t
		}
	}
	x := api.Decomposition{Rays: w.traces(bound)}
	above := cycles(w.successors(x.Rays, 1))
	list := w.chords(x.Rays)
	rest := w.area()
	for _, below := range sides {
		parts, last, _ := w.leave(w.turn(x.Rays[below[0]].From, w.d, w.up, 1), w.up, 400)
		l, _ := w.land(parts, list, false, func() int { return slices.Index(w.rays, w.turn(last, w.up.negative(), w.d, 1)) })
		k := slices.IndexFunc(above, func(c []int) bool { return slices.Contains(c, l.ray) })
		t := sum(x.Rays, below)
		before := sum(x.Rays, above[k][:slices.Index(above[k], l.ray)])
		x.Cylinders = append(x.Cylinders, api.Cylinder{Below: below, Above: above[k], T: numOf(t), Height: numOf(l.height), Twist: numOf(modulo(sub(whole(0), add(before, l.t)), t))})
		rest = sub(rest, mul(t, l.height))
	}
	x.Rest = numOf(rest)
	return x
}

// locate returns the position of a place strictly inside of a face.
func (w *world) locate(x api.Decomposition, p api.Spot) (api.Position, api.Errno) {
	parts := w.walk(p.Face, pointOf(p.At), w.up.negative(), 400)
	last := parts[len(parts)-1]
	l, ok := w.land(parts, w.chords(x.Rays), true, func() int {
		return slices.Index(w.rays, w.turn(slot(last.face, last.edge), w.up, w.d, -1))
	})
	for i, c := range x.Cylinders {
		if k := slices.Index(c.Below, l.ray); ok && k >= 0 {
			return api.Position{Cylinder: i, U: numOf(add(sum(x.Rays, c.Below[:k]), l.t)), V: numOf(l.height)}, api.OK
		}
	}
	return api.Position{}, api.ErrOpen
}

// inside reports whether a place is strictly inside of a face: it is on no edge, and the edges turn around it.
func (w *world) inside(p api.Spot) bool {
	ring, at, turns := w.rings[p.Face], pointOf(p.At), 0
	for i, a := range ring {
		b := ring[(i+1)%len(ring)]
		if b.minus(a).cross(at.minus(a)).Sign() == 0 && at.minus(a).dot(at.minus(b)).Sign() <= 0 {
			return false
		}
		side := b.minus(a).cross(at.minus(a)).Sign()
		if a.y.Cmp(at.y) <= 0 && b.y.Cmp(at.y) > 0 && side > 0 {
			turns++
		}
		if a.y.Cmp(at.y) > 0 && b.y.Cmp(at.y) <= 0 && side < 0 {
			turns--
		}
	}
	return turns != 0
}
