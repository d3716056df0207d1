// Package field computes with integers of any size and with the numbers of real fields that are given by a polynomial and an isolating interval (chapter 1: shared/doc/01-field.md).
//
// Within the package a list that is in normal form is never written into, so lists may be shared; they are copied where they go out.
package field

import (
	"cmp"
	"math"
	"slices"
)

const (
	base = 100000000 // a list is the sum of its elements times powers of this
	pile = 512       // so many products of two elements of normal lists, and one element more, fit into an int
)

// Of returns a machine integer.
func Of(n int) []int { return settle([]int{n}) }

// Small returns the value of an integer, if it is a machine integer.
func Small(x []int) (int, bool) {
	x = normal(x)
	if len(x) > 2 && (compare(x, Of(math.MinInt)) < 0 || compare(x, Of(math.MaxInt)) > 0) {
		return 0, false
	}
	return small(x), true
}

// Normal returns the normal form.
func Normal(x []int) []int { return slices.Clone(normal(x)) }

// Add returns x + y.
func Add(x, y []int) []int { return plus(normal(x), 1, normal(y)) }

// Sub returns x - y.
func Sub(x, y []int) []int { return plus(normal(x), -1, normal(y)) }

// Mul returns x * y.
func Mul(x, y []int) []int { return product(normal(x), normal(y)) }

// Cmp compares two integers.
func Cmp(x, y []int) int { return compare(normal(x), normal(y)) }

// small returns the value of a normal list that is a machine integer.
func small(x []int) int {
	n := 0
	for _, e := range slices.Backward(x) {
		n = n*base + e
	}
	return n
}

// isNormal reports whether a list is in normal form.
func isNormal(x []int) bool {
	if len(x) == 0 {
		return true
	}
	top := x[len(x)-1]
	for _, e := range x {
		if e <= -base || e >= base || e < 0 && top > 0 || e > 0 && top < 0 {
			return false
		}
	}
	return top != 0
}

// normal returns the normal form: the list itself, if it is in normal form.
func normal(x []int) []int {
	if isNormal(x) {
		return x
	}
	return settle(slices.Clone(x))
}

// settle brings a new list into normal form, writing into it.
func settle(x []int) []int {
	for over := carry(x); over != 0; over /= base {
		x = append(x, over%base)
	}
	x = trim(x)
	borrow(x)
	return trim(x)
}

// carry makes all elements of a list smaller than base in size, their signs being mixed, and returns what goes beyond the last one.
func carry(x []int) int {
	over := 0
	for i, e := range x {
		// An element may be as large as an int can be: what is carried is added to its rest alone.
		rest := e%base + over
		x[i] = rest % base
		over = e/base + rest/base
	}
	return over
}

// borrow gives all elements the sign of the last one, which is not 0; all are smaller than base in size.
func borrow(x []int) {
	unit := sign(x)
	for i := range len(x) - 1 {
		if x[i]*unit < 0 {
			x[i] += unit * base
			x[i+1] -= unit
		}
	}
}

// trim leaves out the zeros at the end.
func trim(x []int) []int {
	n := len(x)
	for n > 0 && x[n-1] == 0 {
		n--
	}
	return x[:n]
}

// sign returns the sign of a normal list.
func sign(x []int) int {
	if len(x) == 0 {
		return 0
	}
	if x[len(x)-1] < 0 {
		return -1
	}
	return 1
}

// isOne reports whether a normal list is 1.
func isOne(x []int) bool { return len(x) == 1 && x[0] == 1 }

// compare compares two normal lists.
func compare(x, y []int) int {
	if sign(x) != sign(y) {
		return cmp.Compare(sign(x), sign(y))
	}
	if len(x) != len(y) {
		return cmp.Compare(len(x), len(y)) * sign(x)
	}
	for i, e := range slices.Backward(x) {
		if e != y[i] {
			return cmp.Compare(e, y[i])
		}
	}
	return 0
}

// plus returns x + f y as a new list, for normal lists and an f of at most base in size.
func plus(x []int, f int, y []int) []int {
	n := max(len(x), len(y))
	z := make([]int, n, n+1)
	copy(z, x)
	for i, e := range y {
		z[i] += f * e
	}
	return settle(z)
}

// negative returns -x as a new list, for a normal list.
func negative(x []int) []int {
	z := make([]int, len(x))
	for i, e := range x {
		z[i] = -e
	}
	return z
}

// size returns |x| for a normal list: the list itself, if it is not negative.
func size(x []int) []int {
	if sign(x) < 0 {
		return negative(x)
	}
	return x
}

// product returns x y as a new list, for normal lists.
func product(x, y []int) []int {
	if len(x) == 0 || len(y) == 0 {
		return nil
	}
	z := make([]int, len(x)+len(y))
	for i, a := range x {
		for j, b := range y {
			z[i+j] += a * b
		}
		if i%pile == pile-1 {
			carry(z) // nothing goes beyond the end, as z has room for the whole product
		}
	}
	return settle(z)
}

// power returns x^n as a new list, for a normal list.
func power(x []int, n int) []int {
	z := []int{1}
	for ; n > 0; n /= 2 {
		if n%2 == 1 {
			z = product(z, x)
		}
		if n > 1 {
			x = product(x, x)
		}
	}
	return z
}
