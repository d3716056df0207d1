package surface

import (
	"slices"

	"flatland/api"
	"flatland/field"
)

// plane is the arithmetic of the plane over an open field.
type plane struct{ *field.Real }

// normal returns a vector with both numbers in normal form; it shares no memory with the argument.
func (p plane) normal(v api.Vec) api.Vec { return api.Vec{X: p.Normal(v.X), Y: p.Normal(v.Y)} }

// minus returns u - v.
func (p plane) minus(u, v api.Vec) api.Vec {
	return api.Vec{X: p.Sub(u.X, v.X), Y: p.Sub(u.Y, v.Y)}
}

// negative returns -v.
func (p plane) negative(v api.Vec) api.Vec { return p.minus(api.Vec{}, v) }

// dot returns the product u.X v.X + u.Y v.Y.
func (p plane) dot(u, v api.Vec) api.Num { return p.Add(p.Mul(u.X, v.X), p.Mul(u.Y, v.Y)) }

// divide returns x/y for a y that is not 0.
func (p plane) divide(x, y api.Num) api.Num {
	q, _ := p.Quo(x, y)
	return q
}

// turn returns 1 if v points to the left of u, -1 if it points to the right, and otherwise 0.
func (p plane) turn(u, v api.Vec) int { return p.Sign(p.Cross(u, v)) }

// inSector reports whether a direction lies in the sector from one direction (included) counterclockwise to another one (not included).
func (p plane) inSector(from, to, d api.Vec) bool {
	switch p.turn(from, to) {
	case 1:
		return p.turn(from, d) >= 0 && p.turn(d, to) > 0
	case -1:
		return p.turn(to, d) < 0 || p.turn(d, from) <= 0
	}
	side := p.turn(from, d)
	return side > 0 || side == 0 && p.Sign(p.dot(from, d)) > 0
}

// circle returns, for the vectors to three points that run counterclockwise, where they begin: 1 inside of the circle through the points, 0 on it, or -1 outside.
func (p plane) circle(to [3]api.Vec) int {
	sum := field.Whole(0)
	for i, v := range to {
		sum = p.Add(sum, p.Mul(p.dot(v, v), p.Cross(to[(i+1)%3], to[(i+2)%3])))
	}
	return p.Sign(sum)
}

// meet reports whether the segment from a with the vector u and the one from b with the vector v, which is not parallel to u, have a point in common.
func (p plane) meet(a, u, b, v api.Vec) bool {
	w, d := p.minus(b, a), p.Cross(u, v)
	return p.Sign(d) != 0 && p.isPart(p.Cross(w, v), d) && p.isPart(p.Cross(w, u), d)
}

// isPart reports whether x/d is from 0 to 1, d not being 0.
func (p plane) isPart(x, d api.Num) bool {
	unit := p.Sign(d)
	return p.Sign(x)*unit >= 0 && p.Cmp(x, d)*unit <= 0
}

// isZero reports whether a vector in normal form is the zero vector.
func isZero(v api.Vec) bool { return len(v.X.C) == 0 && len(v.Y.C) == 0 }

// sameNum reports whether two numbers in normal form are equal.
func sameNum(x, y api.Num) bool {
	return slices.EqualFunc(x.C, y.C, slices.Equal) && slices.Equal(x.D, y.D)
}

// sameVec reports whether two vectors in normal form are equal.
func sameVec(u, v api.Vec) bool { return sameNum(u.X, v.X) && sameNum(u.Y, v.Y) }
