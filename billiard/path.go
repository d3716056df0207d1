package billiard

import (
	"iter"

	"flatland/api"
	"flatland/field"
)

// Next returns the next state.
func Next(t api.Table, s api.State) (api.State, api.Errno) {
	b, s, e := start(t, s)
	if e != api.OK {
		return api.State{}, e
	}
	return b.next(s)
}

// Follow returns the states after 1 to n hits.
func Follow(t api.Table, s api.State, n int) ([]api.State, api.Errno) {
	b, s, e := startHits(t, s, 0, n)
	if e != api.OK {
		return nil, e
	}
	var states []api.State
	for next, e := range b.behind(s, n) {
		if e != api.OK {
			return states, e
		}
		states = append(states, next)
	}
	return states, api.OK
}

// Code returns the sides of the first n hits.
func Code(t api.Table, s api.State, n int) ([]int, api.Errno) {
	b, s, e := startHits(t, s, 0, n)
	if e != api.OK {
		return nil, e
	}
	return b.code(s, n)
}

// Reverse returns the state that goes back to where a state came from.
func Reverse(t api.Table, s api.State) (api.State, api.Errno) {
	b, s, e := start(t, s)
	if e != api.OK {
		return api.State{}, e
	}
	s.Dir = b.Times(field.Whole(-1), b.Apply(b.mirror(s.Side), s.Dir))
	return s, api.OK
}

// Period returns the number of hits after which a state comes back.
func Period(t api.Table, s api.State, n int) (int, api.Errno) {
	b, s, e := startHits(t, s, 1, n)
	if e != api.OK {
		return 0, e
	}
	k := 0
	for next, e := range b.behind(s, n) {
		if e != api.OK {
			return 0, e
		}
		k++
		if next.Side == s.Side && sameNum(next.T, s.T) && sameVec(next.Dir, s.Dir) {
			return k, api.OK
		}
	}
	return 0, api.ErrOpen
}

// startHits is start for a function that looks at n hits, at least so many.
func startHits(t api.Table, s api.State, least, n int) (*board, api.State, api.Errno) {
	b, s, e := start(t, s)
	if e == api.OK && !within(n, least, api.MaxHits) {
		return nil, api.State{}, api.ErrRange
	}
	return b, s, e
}

// code returns the sides of the first n hits of a valid state; beside an error those before the corner.
func (b *board) code(s api.State, n int) ([]int, api.Errno) {
	var code []int
	for next, e := range b.behind(s, n) {
		if e != api.OK {
			return code, e
		}
		code = append(code, next.Side)
	}
	return code, api.OK
}

// behind yields the states after 1 to n hits; at a corner it yields the error and ends.
func (b *board) behind(s api.State, n int) iter.Seq2[api.State, api.Errno] {
	return func(yield func(api.State, api.Errno) bool) {
		e := api.OK
		for range n {
			s, e = b.next(s)
			if !yield(s, e) || e != api.OK {
				return
			}
		}
	}
}

// next returns the state behind a valid one.
func (b *board) next(s api.State) (api.State, api.Errno) {
	at, where := b.place(s), b.where(s)
	i := b.first(at, s.Dir, b.crossed(s.Side, where))
	if where[i] == 0 || where[b.after(i)] == 0 {
		return api.State{}, api.ErrCorner
	}
	return api.State{Side: i, T: b.crossing(at, s.Dir, i), Dir: b.Apply(b.mirror(i), s.Dir)}, api.OK
}

// where returns for each corner whether it is to the right of the straight line of a state (1), on it (0), or to its left (-1).
func (b *board) where(s api.State) []int {
	// The numbers of a state become long: without denominators they are multiplied, but nothing has to be reduced.
	dir := b.cleared(s.Dir)
	over, under := api.Num{C: s.T.C}, api.Num{C: []api.Int{s.T.D}}
	begin := b.corners[s.Side]
	line := b.Mul(over, b.Cross(b.sides[s.Side], dir))
	list := make([]int, len(b.corners))
	for k, v := range b.corners {
		list[k] = b.Cmp(b.Mul(under, b.Cross(b.minus(v, begin), dir)), line)
	}
	return list
}

// cleared returns a positive multiple, without denominators, of a vector in normal form.
func (b *board) cleared(v api.Vec) api.Vec {
	more, _, _ := field.DivMod(v.Y.D, field.Gcd(v.X.D, v.Y.D))
	return b.Times(api.Num{C: []api.Int{field.Mul(v.X.D, more)}}, v)
}

// crossed returns the sides, without the one from which a straight line comes, that meet it in one point, before or behind it.
func (b *board) crossed(from int, where []int) []int {
	var list []int
	for i := range b.sides {
		j := b.after(i)
		if i != from && where[i]*where[j] <= 0 && where[i] != where[j] {
			list = append(list, i)
		}
	}
	return list
}

// first returns the one of these sides that a point meets first.
func (b *board) first(at, dir api.Vec, sides []int) int {
	best := sides[0]
	if len(sides) == 1 {
		return best
	}
	var least api.Num
	for _, i := range sides {
		far := b.distance(at, dir, i)
		if b.Sign(far) > 0 && (b.Sign(least) == 0 || b.Cmp(far, least) < 0) {
			best, least = i, far
		}
	}
	return best
}

// distance returns after how many times dir the straight line from a point meets the line of a side, which is not parallel to it.
func (b *board) distance(at, dir api.Vec, i int) api.Num {
	return b.divide(b.Cross(b.minus(b.corners[i], at), b.sides[i]), b.Cross(dir, b.sides[i]))
}

// crossing returns where this is on the side, as a multiple of its vector.
func (b *board) crossing(at, dir api.Vec, i int) api.Num {
	return b.divide(b.Cross(b.minus(b.corners[i], at), dir), b.Cross(dir, b.sides[i]))
}
