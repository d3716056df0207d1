package orbit

import (
	"flatland/api"
	"flatland/origami"
)

// Fractions stay far below the limits of int: the widths of the cylinders of at most 20 squares have the least common multiple 232792560, and the lengths of the cycles of a permutation of 20 elements one of at most 420.

// lowest returns the fraction of two positive numbers in lowest terms.
func lowest(num, den int) api.Frac {
	d := gcd(num, den)
	return api.Frac{Num: num / d, Den: den / d}
}

// plus returns the sum of two fractions.
func plus(a, b api.Frac) api.Frac { return lowest(a.Num*b.Den+b.Num*a.Den, a.Den*b.Den) }

// mean returns the mean of the sums of height/width over the members of an orbit.
func mean(x api.Orbit) api.Frac {
	sum := api.Frac{Den: 1}
	for _, o := range x.Labels {
		cylinders, _ := origami.Cylinders(o, false)
		for _, c := range cylinders {
			sum = plus(sum, lowest(c.Height, c.Width))
		}
	}
	return lowest(sum.Num, sum.Den*len(x.Labels))
}

// vertexTerm returns what the vertices of a connected origami contribute to the sum of the Lyapunov exponents.
func vertexTerm(o api.Origami) api.Frac {
	sum := api.Frac{Den: 1}
	orders, _ := origami.Stratum(o)
	for _, d := range orders {
		sum = plus(sum, lowest(d*(d+2), d+1))
	}
	return lowest(sum.Num, 12*sum.Den)
}
