package cylinder

import (
	"flatland/api"
	"flatland/field"
)

// maxTimes bounds how often a cylinder is twisted.
const maxTimes = 1000000000

// twist returns the least number by which a shear in the direction turns the upper sides of cylinders whole numbers of times, and these numbers.
func (b *body) twist(l []api.Cylinder) (tau api.Num, times []int, e api.Errno) {
	// A shear by the quotient T/Height of a cylinder turns it once. Let it be first for the cylinder 0: k times this turns another cylinder k quotients times, so k has to be a multiple of the denominators.
	first, _ := b.Quo(l[0].T, l[0].Height)
	var quotients []api.Num
	least := api.Int{1}
	for _, x := range l {
		q, _ := b.Quo(b.Mul(first, x.Height), x.T)
		if len(q.C) > 1 {
			return api.Num{}, nil, api.ErrNone
		}
		quotients = append(quotients, q)
		least = field.Mul(least, part(q.D, field.Gcd(least, q.D)))
	}
	for _, q := range quotients {
		n, ok := field.Small(field.Mul(q.C[0], part(least, q.D)))
		if !ok || n > maxTimes {
			return api.Num{}, nil, api.ErrLarge
		}
		times = append(times, n)
	}
	return b.Mul(first, api.Num{C: []api.Int{least}}), times, api.OK
}

// part returns x/y, y being a divisor of x.
func part(x, y api.Int) api.Int {
	q, _, _ := field.DivMod(x, y)
	return q
}

// shear returns the matrix that takes each vector v to v + tau (d x v) d.
func shear(r *field.Real, d api.Vec, tau api.Num) api.Mat {
	one := field.Whole(1)
	x, y := r.Mul(tau, d.X), r.Mul(tau, d.Y)
	return api.Mat{
		A: r.Sub(one, r.Mul(x, d.Y)),
		B: r.Mul(x, d.X),
		C: r.Sub(api.Num{}, r.Mul(y, d.Y)),
		D: r.Add(one, r.Mul(y, d.X)),
	}
}
