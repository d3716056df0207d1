package orbit

import "flatland/api"

// maxLevel is the greatest level.
const maxLevel = 1000000000000000

// lesser returns the lesser number of the pair of a member.
func lesser(x api.Orbit, i int) int { return min(i, x.S[x.S[i]]) }

// pairs returns the lesser numbers of all pairs.
func pairs(x api.Orbit) []int {
	var list []int
	for i := range x.Labels {
		if lesser(x, i) == i {
			list = append(list, i)
		}
	}
	return list
}

// cusps returns the cycles of T on the pairs.
func cusps(x api.Orbit) []api.Cusp {
	var list []api.Cusp
	done := make([]bool, len(x.Labels))
	for _, first := range pairs(x) {
		var c api.Cusp
		for i := first; !done[i]; i = lesser(x, x.T[i]) {
			done[i] = true
			c.Members = append(c.Members, i)
		}
		if c.Width = len(c.Members); c.Width > 0 {
			list = append(list, c)
		}
	}
	return list
}

// elliptic returns how many pairs S and ST leave as they are.
func elliptic(x api.Orbit) (two, three int) {
	for _, i := range pairs(x) {
		if lesser(x, x.S[i]) == i {
			two++
		}
		if lesser(x, x.S[x.T[i]]) == i {
			three++
		}
	}
	return two, three
}

// genus returns the genus of the curve.
func genus(x api.Orbit) int {
	two, three := elliptic(x)
	return 1 + (len(pairs(x))-3*two-4*three-6*len(cusps(x)))/12
}

// level returns the least common multiple of the widths of cusps, or ErrLarge.
func level(list []api.Cusp) (int, api.Errno) {
	n := 1
	for _, c := range list {
		if n *= c.Width / gcd(n, c.Width); n > maxLevel {
			return 0, api.ErrLarge
		}
	}
	return n, api.OK
}

// gcd returns the greatest common divisor of numbers that are not negative.
func gcd(a, b int) int {
	for b != 0 {
		a, b = b, a%b
	}
	return a
}
