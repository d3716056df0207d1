package billiard_test

import (
	"math/big"
	"slices"

	"flatland/api"
)

// The tests compare the package, over the fractions, with what follows here: it moves the point by the definitions alone, with math/big.

type point struct{ x, y *big.Rat }

type ring []point

// moving is a state; its place is a point.
type moving struct {
	side    int
	at, dir point
}

func add(a, b *big.Rat) *big.Rat { return new(big.Rat).Add(a, b) }
func sub(a, b *big.Rat) *big.Rat { return new(big.Rat).Sub(a, b) }
func mul(a, b *big.Rat) *big.Rat { return new(big.Rat).Mul(a, b) }
func quo(a, b *big.Rat) *big.Rat { return new(big.Rat).Quo(a, b) }

func whole(n int64) *big.Rat { return big.NewRat(n, 1) }

func (p point) minus(q point) point          { return point{sub(p.x, q.x), sub(p.y, q.y)} }
func (p point) plus(q point) point           { return point{add(p.x, q.x), add(p.y, q.y)} }
func (p point) times(f *big.Rat) point       { return point{mul(f, p.x), mul(f, p.y)} }
func (p point) dot(q point) *big.Rat         { return add(mul(p.x, q.x), mul(p.y, q.y)) }
func (p point) cross(q point) *big.Rat       { return sub(mul(p.x, q.y), mul(p.y, q.x)) }
func (p point) is(q point) bool              { return p.x.Cmp(q.x) == 0 && p.y.Cmp(q.y) == 0 }
func (p point) vec() api.Vec                 { return api.Vec{X: numOf(p.x), Y: numOf(p.y)} }
func pointOf(v api.Vec) point                { return point{rat(v.X), rat(v.Y)} }
func (g ring) corner(i int) point            { return g[i%len(g)] }
func (g ring) side(i int) point              { return g.corner(i + 1).minus(g[i]) }
func (g ring) place(i int, t *big.Rat) point { return g[i].plus(g.side(i).times(t)) }

// points returns the corners of a table over the fractions.
func points(t api.Table) ring {
	var g ring
	for _, v := range t.Corners {
		g = append(g, pointOf(v))
	}
	return g
}

// between reports whether p is on the segment from a to b.
func between(p, a, b point) bool {
	return b.minus(a).cross(p.minus(a)).Sign() == 0 && p.minus(a).dot(p.minus(b)).Sign() <= 0
}

// meet reports whether two segments have a point in common: an end of one on the other one, or each one's ends on both sides of the other one.
func meet(a, b, c, d point) bool {
	if between(a, c, d) || between(b, c, d) || between(c, a, b) || between(d, a, b) {
		return true
	}
	e, f := b.minus(a), d.minus(c)
	return e.cross(c.minus(a)).Sign()*e.cross(d.minus(a)).Sign() < 0 && f.cross(a.minus(c)).Sign()*f.cross(b.minus(c)).Sign() < 0
}

// isSimple reports whether a ring is a table.
func (g ring) isSimple() bool {
	n := len(g)
	for i := range g {
		if g.side(i).cross(g.side((i+1)%n)).Sign() == 0 {
			return false
		}
		for j := i + 2; j < n; j++ {
			if (j+1)%n != i && meet(g[i], g.corner(i+1), g[j], g.corner(j+1)) {
				return false
			}
		}
	}
	return g.area().Sign() > 0
}

// area returns the area: the sum of the trapezoids below the sides.
func (g ring) area() *big.Rat {
	sum := new(big.Rat)
	for i, p := range g {
		q := g.corner(i + 1)
		sum.Add(sum, mul(sub(p.x, q.x), add(p.y, q.y)))
	}
	return quo(sum, whole(2))
}

// mirrored returns the reflection of v in a line with the vector e.
func mirrored(e, v point) point {
	return e.times(quo(mul(whole(2), v.dot(e)), e.dot(e))).minus(v)
}

// next returns the next state, or false at a corner.
func (g ring) next(m moving) (moving, bool) {
	var least *big.Rat
	hit, corner := -1, false
	for i := range g {
		e := g.side(i)
		d := m.dir.cross(e)
		if i == m.side || d.Sign() == 0 {
			continue
		}
		far := quo(g[i].minus(m.at).cross(e), d)
		on := quo(g[i].minus(m.at).cross(m.dir), d)
		if far.Sign() <= 0 || on.Sign() < 0 || on.Cmp(whole(1)) > 0 || least != nil && far.Cmp(least) >= 0 {
			continue
		}
		least, hit, corner = far, i, on.Sign() == 0 || on.Cmp(whole(1)) == 0
	}
	if corner {
		return moving{}, false
	}
	return moving{hit, m.at.plus(m.dir.times(least)), mirrored(g.side(hit), m.dir)}, true
}

// code returns the sides of n hits, or fewer at a corner.
func (g ring) code(m moving, n int) []int {
	var code []int
	for range n {
		next, ok := g.next(m)
		if !ok {
			break
		}
		m = next
		code = append(code, m.side)
	}
	return code
}

// stateOf returns a state of the package.
func (g ring) stateOf(m moving) api.State {
	e := g.side(m.side)
	t := quo(m.at.minus(g[m.side]).dot(e), e.dot(e))
	return api.State{Side: m.side, T: numOf(t), Dir: m.dir.vec()}
}

func (g ring) movingOf(s api.State) moving {
	return moving{s.Side, g.place(s.Side, rat(s.T)), pointOf(s.Dir)}
}

// copies returns the copies along a code, each one reflected in a side of the one before.
func (g ring) copies(code []int) []ring {
	list := []ring{g}
	for k, i := range code {
		var next ring
		for _, p := range list[k] {
			a := list[k][i]
			next = append(next, a.plus(mirrored(list[k].side(i), p.minus(a))))
		}
		list = append(list, next)
	}
	return list
}

// breaks returns the places on a side, from 0 to 1, whose lines in a direction go through corners of the copies: only there a code may change.
func (g ring) breaks(side int, dir point, code []int) []*big.Rat {
	list := []*big.Rat{whole(0), whole(1)}
	for _, h := range g.copies(code) {
		for _, p := range h {
			t := quo(p.minus(g[side]).cross(dir), g.side(side).cross(dir))
			if t.Sign() > 0 && t.Cmp(whole(1)) < 0 {
				list = append(list, t)
			}
		}
	}
	slices.SortFunc(list, func(a, b *big.Rat) int { return a.Cmp(b) })
	return slices.CompactFunc(list, func(a, b *big.Rat) bool { return a.Cmp(b) == 0 })
}

// strip returns the places on a side at which the code in a direction is this one, and whether there are any; the direction leads into the table.
func (g ring) strip(side int, dir point, code []int) (low, high *big.Rat, ok bool) {
	has := func(t *big.Rat) bool {
		return slices.Equal(g.code(moving{side, g.place(side, t), dir}, len(code)), code)
	}
	list := g.breaks(side, dir, code)
	for k, t := range list[1:] {
		switch {
		case !has(quo(add(list[k], t), whole(2))):
		case !ok:
			low, high, ok = list[k], t, true
		case high.Cmp(list[k]) == 0 && has(list[k]):
			high = t
		default:
			panic("the places are no interval")
		}
	}
	return low, high, ok
}
