package count

import (
	"flatland/api"
	"flatland/field"
)

// factorial returns n!, for n up to MaxParts.
func factorial(n int) int {
	product := 1
	for k := range n {
		product *= k + 1
	}
	return product
}

// choices returns the number of ways to choose k of n things.
func choices(n, k int) int { return factorial(n) / (factorial(k) * factorial(n-k)) }

// lowest returns the fraction of a number and a positive one in lowest terms.
func lowest(num, den []int) api.Rate {
	common := field.Gcd(num, den)
	num, _, _ = field.DivMod(num, common)
	den, _, _ = field.DivMod(den, common)
	return api.Rate{Num: num, Den: den}
}

// divisorSum returns the sum of the divisors of n.
func divisorSum(n int) int {
	sum := 0
	for d := 1; d <= n; d++ {
		if n%d == 0 {
			sum += d
		}
	}
	return sum
}

// squareTotient returns n^2 times the product of 1 - 1/q^2 over all primes q that divide n.
func squareTotient(n int) int {
	product, rest := n*n, n
	for q := 2; q <= rest; q++ {
		if rest%q != 0 {
			continue
		}
		product = product / (q * q) * (q*q - 1)
		for rest%q == 0 {
			rest /= q
		}
	}
	return product
}
