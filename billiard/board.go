package billiard

import (
	"slices"

	"flatland/api"
	"flatland/field"
)

// board is a table that was checked: its field, and its corners and the vectors of its sides in normal form.
type board struct {
	*field.Real
	corners, sides []api.Vec
	turn           [][]int         // turn[i][k] is 1 if corner k is to the left of the line of side i, 0 if it is on it, and otherwise -1
	mirrors        map[int]api.Mat // the reflections that were needed so far
}

// open checks a table.
func open(t api.Table) (*board, api.Errno) {
	r, e := field.Open(t.Field)
	switch {
	case e != api.OK:
		return nil, e
	case len(t.Corners) < 3:
		return nil, api.ErrShape
	case len(t.Corners) > api.MaxCorners:
		return nil, api.ErrLarge
	}
	b := &board{Real: r, mirrors: map[int]api.Mat{}}
	for _, v := range t.Corners {
		b.corners = append(b.corners, b.normal(v))
	}
	for i, v := range b.corners {
		b.sides = append(b.sides, b.minus(b.corners[b.after(i)], v))
	}
	b.turn = b.turns()
	if !b.isSimple() || b.Sign(b.doubleArea()) < 0 {
		return nil, api.ErrForm
	}
	return b, api.OK
}

// turns returns where the corners are, seen from the sides.
func (b *board) turns() [][]int {
	turn := make([][]int, len(b.sides))
	for i, side := range b.sides {
		for _, v := range b.corners {
			turn[i] = append(turn[i], b.Sign(b.Cross(side, b.minus(v, b.corners[i]))))
		}
	}
	return turn
}

// isSimple reports whether neighbours are not parallel, and all other sides have no point in common. (Neighbours that are not parallel have just their corner in common.)
func (b *board) isSimple() bool {
	holds := func(i, k int) bool {
		v := b.corners[k]
		return b.turn[i][k] == 0 && b.Sign(b.dot(b.minus(b.corners[i], v), b.minus(b.corners[b.after(i)], v))) <= 0
	}
	parts := func(i, j int) bool { return b.turn[i][j]*b.turn[i][b.after(j)] < 0 }
	meet := func(i, j int) bool {
		return parts(i, j) && parts(j, i) || holds(i, j) || holds(i, b.after(j)) || holds(j, i) || holds(j, b.after(i))
	}
	for i := range b.sides {
		if b.turn[i][b.after(b.after(i))] == 0 {
			return false
		}
		for j := i + 2; j < len(b.sides); j++ {
			if b.after(j) != i && meet(i, j) {
				return false
			}
		}
	}
	return true
}

// checkState returns the error of a state in normal form.
func (b *board) checkState(s api.State) api.Errno {
	switch {
	case !b.hasSide(s.Side):
		return api.ErrMissing
	case b.Sign(s.T) <= 0 || b.Cmp(s.T, field.Whole(1)) >= 0:
		return api.ErrRange
	case b.Sign(b.Cross(b.sides[s.Side], s.Dir)) <= 0:
		return api.ErrForm
	}
	return api.OK
}

// checkCode returns the error of a code.
func (b *board) checkCode(code []int) api.Errno {
	if len(code) > api.MaxHits {
		return api.ErrLarge
	}
	for _, i := range code {
		if !b.hasSide(i) {
			return api.ErrMissing
		}
	}
	return api.OK
}

// hasSide reports whether there is a side with this number.
func (b *board) hasSide(i int) bool { return within(i, 0, len(b.corners)-1) }

// after returns the number of the corner, or the side, behind another one.
func (b *board) after(i int) int { return (i + 1) % len(b.corners) }

// doubleArea returns twice the area.
func (b *board) doubleArea() api.Num {
	sum := field.Whole(0)
	for i, v := range b.corners {
		sum = b.Add(sum, b.Cross(v, b.corners[b.after(i)]))
	}
	return sum
}

// reflex returns the corners whose angle is more than half a turn.
func (b *board) reflex() []int {
	var list []int
	for i := range b.sides {
		if k := b.after(i); b.turn[i][b.after(k)] < 0 {
			list = append(list, k)
		}
	}
	return list
}

// place returns the point at which a state stands.
func (b *board) place(s api.State) api.Vec {
	return b.Sum(b.corners[s.Side], b.Times(s.T, b.sides[s.Side]))
}

// normal returns a vector with both numbers in normal form.
func (b *board) normal(v api.Vec) api.Vec { return api.Vec{X: b.Normal(v.X), Y: b.Normal(v.Y)} }

// minus returns u - v.
func (b *board) minus(u, v api.Vec) api.Vec {
	return api.Vec{X: b.Sub(u.X, v.X), Y: b.Sub(u.Y, v.Y)}
}

// dot returns the product of two vectors.
func (b *board) dot(u, v api.Vec) api.Num { return b.Add(b.Mul(u.X, v.X), b.Mul(u.Y, v.Y)) }

// half returns x/2.
func (b *board) half(x api.Num) api.Num { return b.divide(x, field.Whole(2)) }

// divide returns x/y for a y that is not 0.
func (b *board) divide(x, y api.Num) api.Num {
	q, _ := b.Quo(x, y)
	return q
}

// sameNum reports whether two numbers in normal form are equal.
func sameNum(x, y api.Num) bool {
	return slices.EqualFunc(x.C, y.C, slices.Equal) && slices.Equal(x.D, y.D)
}

// sameVec reports whether two vectors in normal form are equal.
func sameVec(u, v api.Vec) bool { return sameNum(u.X, v.X) && sameNum(u.Y, v.Y) }

// sameMat reports whether two matrices in normal form are equal.
func sameMat(m, n api.Mat) bool {
	return sameNum(m.A, n.A) && sameNum(m.B, n.B) && sameNum(m.C, n.C) && sameNum(m.D, n.D)
}
