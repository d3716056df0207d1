package field

import (
	"slices"

	"flatland/api"
)

// DivMod returns the quotient and the remainder, which is not negative.
func DivMod(x, y []int) (q, r []int, e api.Errno) {
	x, y = normal(x), normal(y)
	if len(y) == 0 {
		return nil, nil, api.ErrZero
	}
	q, r = divide(x, y)
	return q, r, api.OK
}

// Gcd returns the greatest common divisor.
func Gcd(x, y []int) []int { return slices.Clone(gcd(normal(x), normal(y))) }

// divide is DivMod for normal lists, y not being 0; both results are new lists.
func divide(x, y []int) (q, r []int) {
	a, b := size(x), size(y)
	q, r = quotient(a, b)
	if sign(x) < 0 && len(r) > 0 {
		q, r = plus(q, 1, []int{1}), plus(b, -1, r)
	}
	if sign(x) != sign(y) {
		q = negative(q)
	}
	return q, r
}

// gcd is Gcd for normal lists; the result may be one of them.
func gcd(x, y []int) []int {
	x, y = size(x), size(y)
	if compare(x, y) < 0 {
		x, y = y, x
	}
	for len(x) > 2 {
		if len(y) == 0 {
			return x
		}
		if a, b, c, d := euclid(x, y); b != 0 {
			x, y = mixed(a, x, b, y), mixed(c, x, d, y)
		} else {
			_, r := quotient(x, y)
			x, y = y, r
		}
	}
	a, b := small(x), small(y)
	for b != 0 {
		a, b = b, a%b
	}
	return Of(a)
}

// euclid makes as many steps of Euclid's algorithm as the first two elements decide, whatever the others are (Lehmer's way: a division of the whole lists for each step would be slow). x is at least y and has more than two elements. The steps make a x + b y and c x + d y of x and y; b is 0 if there is no step.
func euclid(x, y []int) (a, b, c, d int) {
	u, v := leading(x, len(x)), leading(y, len(x))
	a, d = 1, 1
	for v+c != 0 && v+d != 0 {
		q := (u + a) / (v + c)
		next, last := a-q*c, b-q*d
		if q != (u+b)/(v+d) || max(next, -next, last, -last) > base {
			break
		}
		a, b, c, d = c, d, next, last
		u, v = v, u-q*v
	}
	return a, b, c, d
}

// leading returns the value of the last two of n elements of a list, which may have fewer.
func leading(x []int, n int) int { return small(x[min(n-2, len(x)):]) }

// mixed returns a x + b y as a new list, for normal lists and factors of at most base in size.
func mixed(a int, x []int, b int, y []int) []int {
	z := make([]int, max(len(x), len(y))+1)
	for i, e := range x {
		z[i] = a * e
	}
	for i, e := range y {
		z[i] += b * e
	}
	return settle(z)
}

// quotient divides normal lists that are not negative, y not being 0; both results are new lists.
func quotient(x, y []int) (q, r []int) {
	switch {
	case len(x) <= 2 && len(y) <= 2:
		a, b := small(x), small(y)
		return Of(a / b), Of(a % b)
	case len(x) < len(y):
		return nil, slices.Clone(x)
	case len(y) == 1:
		q, rest := short(x, y[0])
		return q, Of(rest)
	}
	// With a first digit of the divisor that is at least half of the base, a guessed digit of the quotient is hardly ever wrong.
	f := base / (y[len(y)-1] + 1)
	u, v := stretched(x, f, 1), stretched(y, f, 0)
	n := len(v)
	q = make([]int, len(x)-n+1)
	for j := len(x) - n; j >= 0; j-- {
		q[j] = digit(u[j:j+n+1], v)
	}
	r, _ = short(trim(u[:n]), f)
	return trim(q), r
}

// short divides a normal list that is not negative by one element.
func short(x []int, d int) (q []int, rest int) {
	q = make([]int, len(x))
	for i, e := range slices.Backward(x) {
		rest = rest*base + e
		q[i], rest = rest/d, rest%d
	}
	return trim(q), rest
}

// stretched returns f times a list, with room for more elements.
func stretched(x []int, f, more int) []int {
	z := make([]int, len(x)+more)
	for i, e := range x {
		z[i] = f * e
	}
	carry(z)
	return z
}

// digit returns u/v rounded down, which is less than base, and leaves the remainder in u, which has one element more than v.
func digit(u, v []int) int {
	n := len(v)
	top := u[n]*base + u[n-1]
	g, rest := top/v[n-1], top%v[n-1]
	for rest < base && (g >= base || g*v[n-2] > rest*base+u[n-2]) {
		g--
		rest += v[n-1]
	}
	if subtract(u, g, v) < 0 {
		subtract(u, -1, v)
		g--
	}
	return g
}

// subtract makes u - g v of u, whose last element alone may become negative, and returns this element.
func subtract(u []int, g int, v []int) int {
	n := len(v)
	over := 0
	for i, e := range v {
		t := u[i] - g*e + over
		over = t / base
		u[i] = t % base
		if u[i] < 0 {
			u[i] += base
			over--
		}
	}
	u[n] += over
	return u[n]
}
