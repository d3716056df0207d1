package field

import "flatland/api"

// interval is from lo/den to (lo + width)/den. Each step divides it into parts and multiplies den by their number, so the width stays.
type interval struct {
	lo, width, den []int
	halvings       int // how many the next step tries at once
}

// enclosure tells between what the powers of w lie: w^i is from low[i]/scale to high[i]/scale.
type enclosure struct {
	low, high [api.MaxDegree][]int
	scale     []int
}

// nearElements is the number of elements of the denominator of the interval with which every search begins.
const nearElements = 3

// Sign returns the sign of a number.
func (r *Real) Sign(x api.Num) int {
	if r == nil {
		return 0
	}
	return r.sign(r.load(x))
}

// Cmp compares two numbers.
func (r *Real) Cmp(x, y api.Num) int {
	if r == nil {
		return 0
	}
	return r.sign(r.load(x).minus(r.load(y)))
}

// Floor returns the integer part of a number.
func (r *Real) Floor(x api.Num) []int {
	if r == nil {
		return nil
	}
	return r.floor(r.load(x))
}

// Scaled returns the integer part of x times 2^k.
func (r *Real) Scaled(x api.Num, k int) ([]int, api.Errno) {
	if r == nil {
		return nil, api.ErrNil
	}
	if !within(k, 0, api.MaxScale) {
		return nil, api.ErrRange
	}
	n := r.load(x)
	f := power([]int{2}, k)
	for i, c := range n.c {
		n.c[i] = product(c, f)
	}
	return r.floor(n), api.OK
}

// sign returns the sign of a number.
func (r *Real) sign(n number) int {
	s := sign(n.c[0])
	if n.isFraction() {
		return s
	}
	// n is no fraction, so it is not 0, and no bound of it is reached.
	r.halve(func(e enclosure) bool {
		low, high := e.bounds(n)
		switch {
		case sign(low) >= 0:
			s = 1
		case sign(high) <= 0:
			s = -1
		default:
			return false
		}
		return true
	})
	return s
}

// floor returns the integer part of a number.
func (r *Real) floor(n number) []int {
	q, _ := divide(n.c[0], n.d)
	if n.isFraction() {
		return q
	}
	// n is no integer, so at last both bounds have the same integer part.
	r.halve(func(e enclosure) bool {
		low, high := e.bounds(n)
		d := product(n.d, e.scale)
		q, _ = divide(low, d)
		top, _ := divide(high, d)
		return compare(q, top) == 0
	})
	return q
}

// halve makes the interval of w smaller until it is decided what is to be found out.
func (r *Real) halve(decided func(e enclosure) bool) {
	v, e := r.start, r.near
	for !decided(e) {
		v = r.narrowed(v)
		e = r.enclose(v)
	}
}

// bounds returns a lower and an upper bound of a number, times the scale and its denominator.
func (e enclosure) bounds(n number) (low, high []int) {
	for i, c := range n.c {
		switch a, b := e.low[i], e.high[i]; sign(c) {
		case 1:
			low, high = plus(low, 1, product(c, a)), plus(high, 1, product(c, b))
		case -1:
			low, high = plus(low, 1, product(c, b)), plus(high, 1, product(c, a))
		}
	}
	return low, high
}

// enclose returns the powers of an interval.
func (r *Real) enclose(v interval) enclosure {
	end := plus(v.lo, 1, v.width)
	e := enclosure{scale: power(v.den, r.degree-1)}
	low, high := []int{1}, []int{1}
	for i := range r.degree {
		f := power(v.den, r.degree-1-i)
		e.low[i], e.high[i] = product(low, f), product(high, f)
		low, high = spread(low, high, v.lo, end)
	}
	return e
}

// spread returns the least and the greatest product of a number from a to b and one from c to d.
func spread(a, b, c, d []int) (low, high []int) {
	low = product(a, c)
	high = low
	for _, x := range [][]int{product(a, d), product(b, c), product(b, d)} {
		if compare(x, low) < 0 {
			low = x
		}
		if compare(x, high) > 0 {
			high = x
		}
	}
	return low, high
}

// first returns a small interval for w; the field has a degree above 1.
func (r *Real) first() interval {
	f := r.field
	v := interval{lo: Of(f.Lo), width: Of(f.Hi - f.Lo), den: Of(f.Den), halvings: 1}
	for len(v.den) < nearElements {
		v = r.narrowed(v)
	}
	return v
}

// narrowed returns a part of an interval in which w lies. Halving alone would need a step for each bit; so it is tried to halve many times at once, where the secant through the values at both ends meets 0, and twice as often after each success.
func (r *Real) narrowed(v interval) interval {
	for {
		if next, ok := r.part(v); ok {
			next.halvings = 2 * v.halvings
			return next
		}
		v.halvings /= 2
	}
}

// part halves an interval as often as it says, and returns one of the parts; it reports whether w lies there. After a single halving it always does.
func (r *Real) part(v interval) (interval, bool) {
	parts := power([]int{2}, v.halvings)
	a := valueAt(r.poly, v.lo, v.den)
	b := valueAt(r.poly, plus(v.lo, 1, v.width), v.den)
	left := sign(a)
	// a and b have different signs, so this is the part in which the secant meets 0.
	i, _ := quotient(product(parts, size(a)), plus(size(a), 1, size(b)))
	v.den = product(v.den, parts)
	v.lo = plus(product(v.lo, parts), 1, product(i, v.width))
	end := plus(v.lo, 1, v.width)
	switch {
	case sign(valueAt(r.poly, v.lo, v.den)) != left:
		v.lo = plus(v.lo, -1, v.width)
	case sign(valueAt(r.poly, end, v.den)) == left:
		v.lo = end
	default:
		return v, true
	}
	return v, v.halvings == 1
}
