package field

import "flatland/api"

// Cross returns the cross product of two vectors.
func (r *Real) Cross(u, v api.Vec) api.Num {
	if r == nil {
		return api.Num{}
	}
	return store(r.mul(r.load(u.X), r.load(v.Y)).minus(r.mul(r.load(u.Y), r.load(v.X))))
}

// Sum returns the sum of two vectors.
func (r *Real) Sum(u, v api.Vec) api.Vec { return api.Vec{X: r.Add(u.X, v.X), Y: r.Add(u.Y, v.Y)} }

// Times returns a multiple of a vector.
func (r *Real) Times(x api.Num, u api.Vec) api.Vec {
	return api.Vec{X: r.Mul(x, u.X), Y: r.Mul(x, u.Y)}
}

// Apply returns the vector to which a matrix takes a vector.
func (r *Real) Apply(m api.Mat, u api.Vec) api.Vec {
	return api.Vec{X: r.both(m.A, u.X, m.B, u.Y), Y: r.both(m.C, u.X, m.D, u.Y)}
}

// Product returns the product of two matrices.
func (r *Real) Product(m, n api.Mat) api.Mat {
	return api.Mat{
		A: r.both(m.A, n.A, m.B, n.C),
		B: r.both(m.A, n.B, m.B, n.D),
		C: r.both(m.C, n.A, m.D, n.C),
		D: r.both(m.C, n.B, m.D, n.D),
	}
}

// both returns a x + b y.
func (r *Real) both(a, x, b, y api.Num) api.Num {
	if r == nil {
		return api.Num{}
	}
	return store(r.mul(r.load(a), r.load(x)).plus(r.mul(r.load(b), r.load(y))))
}
