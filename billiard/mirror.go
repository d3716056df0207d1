package billiard

import (
	"slices"

	"flatland/api"
	"flatland/field"
)

// Reflection returns the matrix of the reflection in a side.
func Reflection(t api.Table, i int) (api.Mat, api.Errno) {
	b, e := open(t)
	if e != api.OK {
		return api.Mat{}, e
	}
	if !b.hasSide(i) {
		return api.Mat{}, api.ErrMissing
	}
	return b.mirror(i), api.OK
}

// Linear returns the product of the reflections in the sides of a code.
func Linear(t api.Table, code []int) (api.Mat, api.Errno) {
	b, e := openCode(t, code)
	if e != api.OK {
		return api.Mat{}, e
	}
	m := identity()
	for _, i := range code {
		m = b.Product(b.mirror(i), m)
	}
	return m, api.OK
}

// Group returns all products of reflections in sides.
func Group(t api.Table) ([]api.Mat, api.Errno) {
	b, e := open(t)
	if e != api.OK {
		return nil, e
	}
	group := []api.Mat{identity()}
	for k := 0; k < len(group); k++ {
		for i := range b.sides {
			m := b.Product(b.mirror(i), group[k])
			if slices.ContainsFunc(group, func(g api.Mat) bool { return sameMat(g, m) }) {
				continue
			}
			if len(group) == api.MaxGroup {
				return nil, api.ErrLarge
			}
			group = append(group, m)
		}
	}
	return group, api.OK
}

// Copies returns the moves of the copies along a code.
func Copies(t api.Table, code []int) ([]api.Move, api.Errno) {
	b, e := openCode(t, code)
	if e != api.OK {
		return nil, e
	}
	return b.copies(code), api.OK
}

// Unrolled returns the places of a trajectory on a straight line through the copies.
func Unrolled(t api.Table, s api.State, n int) ([]api.Vec, api.Errno) {
	b, s, e := startHits(t, s, 0, n)
	if e != api.OK {
		return nil, e
	}
	m := still()
	places := []api.Vec{b.place(s)}
	for next, e := range b.behind(s, n) {
		if e != api.OK {
			return nil, e
		}
		m = b.further(m, next.Side)
		places = append(places, b.Sum(b.Apply(m.Linear, b.place(next)), m.Shift))
	}
	return places, api.OK
}

// openCode opens a table, or returns the first error of it and of a code.
func openCode(t api.Table, code []int) (*board, api.Errno) {
	b, e := open(t)
	if e == api.OK {
		e = b.checkCode(code)
	}
	return b, e
}

// identity returns the identity.
func identity() api.Mat {
	return api.Mat{A: field.Whole(1), B: field.Whole(0), C: field.Whole(0), D: field.Whole(1)}
}

// still returns the move that moves nothing.
func still() api.Move {
	return api.Move{Linear: identity(), Shift: api.Vec{X: field.Whole(0), Y: field.Whole(0)}}
}

// mirror returns the reflection in a side.
func (b *board) mirror(i int) api.Mat {
	m, ok := b.mirrors[i]
	if !ok {
		m = b.reflection(b.sides[i])
		b.mirrors[i] = m
	}
	return m
}

// reflection returns the matrix of the reflection in a line with the vector e.
func (b *board) reflection(e api.Vec) api.Mat {
	one := field.Whole(1)
	u := b.Times(b.divide(field.Whole(2), b.dot(e, e)), e)
	return api.Mat{
		A: b.Sub(b.Mul(u.X, e.X), one),
		B: b.Mul(u.X, e.Y),
		C: b.Mul(u.Y, e.X),
		D: b.Sub(b.Mul(u.Y, e.Y), one),
	}
}

// copies returns the moves of the copies along a code.
func (b *board) copies(code []int) []api.Move {
	moves := []api.Move{still()}
	for k, i := range code {
		moves = append(moves, b.further(moves[k], i))
	}
	return moves
}

// further returns the move of the copy that is reflected in side i of the copy with the move m: the table is first reflected in its own side i, and then moved.
func (b *board) further(m api.Move, i int) api.Move {
	r, v := b.mirror(i), b.corners[i]
	shift := b.minus(v, b.Apply(r, v))
	return api.Move{Linear: b.Product(m.Linear, r), Shift: b.Sum(b.Apply(m.Linear, shift), m.Shift)}
}
