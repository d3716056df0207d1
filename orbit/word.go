package orbit

import (
	"slices"
	"strings"

	"flatland/api"
)

// letterMatrices returns the matrices of the letters.
func letterMatrices() map[byte]api.Unit {
	return map[byte]api.Unit{
		'S': {A: 0, B: -1, C: 1, D: 0},
		'T': {A: 1, B: 1, C: 0, D: 1},
		's': {A: 0, B: 1, C: -1, D: 0},
		't': {A: 1, B: -1, C: 0, D: 1},
	}
}

// checkUnit returns the error of a matrix.
func checkUnit(m api.Unit) api.Errno {
	switch {
	case !isSmall(m):
		return api.ErrRange
	case m.A*m.D-m.B*m.C != 1:
		return api.ErrForm
	}
	return api.OK
}

// isSmall reports whether no entry is too large.
func isSmall(m api.Unit) bool {
	return !slices.ContainsFunc([]int{m.A, m.B, m.C, m.D}, func(x int) bool { return !within(x, -api.MaxEntry, api.MaxEntry) })
}

// times returns the product of two matrices without too large entries, or ErrLarge.
func times(a, b api.Unit) (api.Unit, api.Errno) {
	m := api.Unit{
		A: a.A*b.A + a.B*b.C, B: a.A*b.B + a.B*b.D,
		C: a.C*b.A + a.D*b.C, D: a.C*b.B + a.D*b.D,
	}
	if !isSmall(m) {
		return api.Unit{}, api.ErrLarge
	}
	return m, api.OK
}

// minus returns a matrix times -1.
func minus(m api.Unit) api.Unit { return api.Unit{A: -m.A, B: -m.B, C: -m.C, D: -m.D} }

// matrix returns the matrix of letters, or ErrLarge if that of a beginning has a too large entry.
func matrix(w string) (api.Unit, api.Errno) {
	matrices := letterMatrices()
	m, e := api.Unit{A: 1, D: 1}, api.OK
	for i := 0; i < len(w) && e == api.OK; i++ {
		m, e = times(m, matrices[w[i]])
	}
	return m, e
}

// word returns a word with a matrix, or ErrLarge. No number becomes much larger than the entries, since the determinant stays 1.
func word(m api.Unit) (string, api.Errno) {
	w := ""
	// A matrix may ask for as many letters S as its entries are large.
	for m.C != 0 && len(w) <= api.MaxWord {
		k := floor(m.A, m.C)
		w += powerOfT(k) + "S"
		m = api.Unit{A: m.C, B: m.D, C: -m.A + k*m.C, D: -m.B + k*m.D}
	}
	if m.A == -1 {
		w += "SS"
		m = minus(m)
	}
	w += powerOfT(m.B)
	if len(w) > api.MaxWord {
		return "", api.ErrLarge
	}
	return w, api.OK
}

// powerOfT returns k letters T, or -k letters t. Of more than a word may have there is only one too many.
func powerOfT(k int) string {
	letter := "T"
	if k < 0 {
		letter, k = "t", -k
	}
	return strings.Repeat(letter, min(k, api.MaxWord+1))
}

// floor returns p divided by q, rounded down.
func floor(p, q int) int {
	k := p / q
	if p%q != 0 && (p < 0) != (q < 0) {
		k--
	}
	return k
}

// otherCase is the bit in which small and capital letters differ.
const otherCase = 's' ^ 'S'

// inverseLetter returns the letter that is inverse to another one.
func inverseLetter(c byte) byte { return c ^ otherCase }

// inverseWord returns the inverse of a word.
func inverseWord(w string) string {
	letters := []byte(w)
	slices.Reverse(letters)
	for i, c := range letters {
		letters[i] = inverseLetter(c)
	}
	return string(letters)
}

// reduced returns a word without neighbouring letters that are inverse to each other.
func reduced(w string) string {
	var left []byte
	for i := range len(w) {
		last := len(left) - 1
		if last >= 0 && left[last] == inverseLetter(w[i]) {
			left = left[:last]
			continue
		}
		left = append(left, w[i])
	}
	return string(left)
}
