package cylinder

import (
	"iter"
	"slices"
	"sort"

	"flatland/api"
	"flatland/field"
)

// net is a surface with the closed ones of its rays, on which lines straight up or straight down end.
type net struct {
	*body
	list    []api.Ray
	isUp    bool
	upright *body   // turned so that these lines go ahead
	bars    [][]bar // of each face, as lines meet them one after another
}

// bar is a part of a closed ray within a face.
type bar struct {
	ray      int
	height   api.Num // in the direction of the lines
	from, to api.Num // its X in the face
	offset   api.Num // what its X has to be added to count from the beginning of the ray
}

// landing is where a line meets a ray, or the vertex at which one begins: so far along the ray, and so high above or deep below the beginning of the line.
type landing struct {
	ray           int
	along, height api.Num
}

// spread returns the net of rays.
func (b *body) spread(l []api.Ray, isUp bool) *net {
	n := &net{body: b, list: l, isUp: isUp, upright: b.upright(isUp), bars: make([][]bar, len(b.faces))}
	for i, x := range l {
		if x.Open {
			continue
		}
		for p := range b.leave(x.From) {
			n.add(i, p)
			// A ray along an edge is on the border of two faces.
			if c := b.corner(x.From); c.edge == ahead {
				n.add(i, piece{face: x.To.Face, height: b.Sub(p.height, c.over.Y), from: b.Sub(p.from, c.over.X), to: b.Sub(p.to, c.over.X), offset: b.Add(p.offset, c.over.X)})
			}
		}
	}
	for _, l := range n.bars {
		slices.SortStableFunc(l, func(x, y bar) int { return b.Cmp(x.height, y.height) })
	}
	return n
}

// add adds a piece of a ray to the bars of its face.
func (n *net) add(ray int, p piece) {
	n.bars[p.face] = append(n.bars[p.face], bar{ray: ray, height: n.signed(p.height), from: p.from, to: p.to, offset: p.offset})
}

// signed returns x if lines go up, and otherwise -x.
func (n *net) signed(x api.Num) api.Num {
	if n.isUp {
		return x
	}
	return n.minus(x)
}

// land returns where a line ends on the net. Lines up begin at a vertex, lines down at a place that may be on a ray. ErrOpen: it has been given up at a height.
func (n *net) land(line iter.Seq[piece], isGivenUp func(height api.Num) bool) (landing, api.Errno) {
	for p := range line {
		x := n.minus(n.signed(p.height))
		if y, ok := n.meet(p, x); ok {
			return landing{ray: y.ray, along: n.Add(x, y.offset), height: n.Add(y.height, p.offset)}, api.OK
		}
		height := n.Add(p.to, p.offset)
		switch {
		case isGivenUp(height):
			return landing{}, api.ErrOpen
		case p.ends:
			return landing{ray: n.number[n.foot(p.end)], height: height}, api.OK
		}
	}
	return landing{}, api.ErrLarge
}

// meet returns the first bar that a piece of a line at x meets, but for those at vertices.
func (n *net) meet(p piece, x api.Num) (bar, bool) {
	list := n.bars[p.face]
	first := sort.Search(len(list), func(i int) bool {
		c := n.Cmp(list[i].height, p.from)
		return c > 0 || c == 0 && !n.isUp
	})
	for _, y := range list[first:] {
		if c := n.Cmp(y.height, p.to); c > 0 || c == 0 && p.ends {
			break
		}
		if n.Cmp(y.from, x) <= 0 && n.Cmp(x, y.to) <= 0 {
			return y, true
		}
	}
	return bar{}, false
}

// foot returns the corner at which the ray begins that is on the same side of a vertex as a line that ends at a corner there.
func (n *net) foot(end api.Slot) api.Slot {
	if n.isUp {
		return n.counterclockwise(end, down, ahead)
	}
	return n.clockwise(end, up, ahead)
}

// across returns where the line straight up from the beginning of a ray meets the net.
func (n *net) across(ray int) (landing, api.Errno) {
	start := n.counterclockwise(n.list[ray].From, ahead, up)
	return n.land(n.upright.leave(start), func(api.Num) bool { return false })
}

// cylinder returns the cylinder to the left of a closed cycle of left successors.
func (n *net) cylinder(below []int) (api.Cylinder, api.Errno) {
	l, e := n.across(below[0])
	if e != api.OK {
		return api.Cylinder{}, e
	}
	x := api.Cylinder{Below: below, Above: cycle(n.right(n.list), l.ray), T: n.length(n.list, below), Height: l.height}
	// Where the line arrives is as far from the beginning of the first ray of the upper side as the rays before say.
	before := x.Above[:slices.Index(x.Above, l.ray)]
	x.Twist = n.modulo(n.minus(n.Add(l.along, n.length(n.list, before))), x.T)
	return x, api.OK
}

// modulo returns x less a whole multiple of t, from 0 to less than t.
func (b *body) modulo(x, t api.Num) api.Num {
	q, _ := b.Quo(x, t)
	return b.Sub(x, b.Mul(t, api.Num{C: []api.Int{b.Floor(q)}}))
}

// length returns the sum of the T of rays.
func (b *body) length(l []api.Ray, rays []int) api.Num {
	sum := field.Whole(0)
	for _, i := range rays {
		sum = b.Add(sum, l[i].T)
	}
	return sum
}

// locate returns the position of a place strictly inside of a face.
func (b *body) locate(x api.Decomposition, p api.Spot) (api.Position, api.Errno) {
	greatest := api.Num{}
	for _, c := range x.Cylinders {
		if b.Cmp(c.Height, greatest) > 0 {
			greatest = c.Height
		}
	}
	n := b.spread(x.Rays, false)
	at := api.Vec{X: b.minus(p.At.Y), Y: p.At.X}
	l, e := n.land(n.upright.line(p.Face, at), func(height api.Num) bool { return b.Cmp(height, greatest) > 0 })
	if e != api.OK {
		return api.Position{}, e
	}
	for i, c := range x.Cylinders {
		if k := slices.Index(c.Below, l.ray); k >= 0 {
			return api.Position{Cylinder: i, U: b.Add(b.length(x.Rays, c.Below[:k]), l.along), V: l.height}, api.OK
		}
	}
	return api.Position{}, api.ErrOpen
}
