package orbit_test

import (
	"fmt"
	"math/rand"
	"strings"
	"testing"

	"flatland/api"
	"flatland/orbit"
)

// P7.1: words, and texts that are none.
func TestCheckWord(t *testing.T) {
	for _, c := range []struct {
		w string
		e api.Errno
	}{
		{"", api.OK},
		{"S", api.OK},
		{"STst", api.OK},
		{"sSTtSs", api.OK},
		{strings.Repeat("t", 200), api.OK},
		{strings.Repeat("S", 201), api.ErrLarge},
		{strings.Repeat("x", 201), api.ErrLarge},
		{strings.Repeat("ST", 5000), api.ErrLarge},
		{"U", api.ErrSyntax},
		{"STX", api.ErrSyntax},
		{"xST", api.ErrSyntax},
		{"S T", api.ErrSyntax},
		{" ", api.ErrSyntax},
		{"ST\n", api.ErrSyntax},
		{"S1", api.ErrSyntax},
		{"ŞT", api.ErrSyntax},
		{"\x00", api.ErrSyntax},
		{"\xd3", api.ErrSyntax}, // S with another first bit
		{"ST\xff", api.ErrSyntax},
		{strings.Repeat("T", 199) + "x", api.ErrSyntax},
	} {
		want(t, fmt.Sprintf("CheckWord of %q", c.w), orbit.CheckWord(c.w), c.e)
		_, e := orbit.Matrix(c.w)
		want(t, fmt.Sprintf("Matrix of %q", c.w), e, c.e)
		_, e = orbit.Act(ell(), c.w)
		want(t, fmt.Sprintf("Act with %q", c.w), e, c.e)
	}
	for c := range 256 {
		e := api.ErrSyntax
		if strings.ContainsRune("STst", rune(c)) {
			e = api.OK
		}
		want(t, fmt.Sprint("CheckWord of the byte ", c), orbit.CheckWord(string([]byte{byte(c)})), e)
	}
}

// P7.1: the matrices of the examples and of all short words, and that of a product.
func TestMatrix(t *testing.T) {
	for w, m := range map[string]api.Unit{
		"":   one(),
		"S":  unit(0, -1, 1, 0),
		"T":  unit(1, 1, 0, 1),
		"s":  unit(0, 1, -1, 0),
		"t":  unit(1, -1, 0, 1),
		"ST": unit(0, -1, 1, 1), "TST": unit(1, 0, 1, 1),
		"SS": unit(-1, 0, 0, -1), "SSSS": one(), "Ss": one(), "tT": one(),
		"STSTST": unit(-1, 0, 0, -1), "STSTSTss": one(),
		strings.Repeat("T", 200): unit(1, 200, 0, 1),
	} {
		x, e := orbit.Matrix(w)
		wantBoth(t, "Matrix of "+w, x, e, m, api.OK)
	}
	for _, w := range words("STst", 5) {
		m, _ := matrixOf(w)
		x, e := orbit.Matrix(w)
		wantBoth(t, "Matrix of "+w, x, e, m, api.OK)
	}
	r := rand.New(rand.NewSource(1))
	for range 500 {
		v, w := randomWord(r, r.Intn(8)), randomWord(r, r.Intn(8))
		a, _ := orbit.Matrix(v)
		b, _ := orbit.Matrix(w)
		m, f := orbit.Matrix(v + w)
		x, e := orbit.Times(a, b)
		wantBoth(t, "the product of the matrices of "+v+" and "+w, x, e, m, f)
	}
}

// P7.1: matrices whose entries, or those of a beginning, are too large.
func TestLargeMatrix(t *testing.T) {
	r := rand.New(rand.NewSource(2))
	results := map[api.Errno]int{}
	check := func(w string) {
		t.Helper()
		m, f := matrixOf(w)
		x, e := orbit.Matrix(w)
		wantBoth(t, "Matrix of "+w, x, e, m, f)
		results[e]++
	}
	for range 500 {
		// Letters that make entries larger, and then those that make them smaller.
		w := ""
		for n := r.Intn(90); len(w) < n; {
			w += strings.Repeat("T", 1+r.Intn(10)) + "S"
		}
		check(w)
		check(w + inverseOf(w))
		check(randomWord(r, r.Intn(201)))
	}
	// With w + inverse the matrix of the whole word is small, but not that of a beginning.
	long := strings.Repeat("TTTTTTTTTS", 9)
	_, e := orbit.Matrix(long + inverseOf(long))
	want(t, "Matrix of a word with a beginning that is too large", e, api.ErrLarge)
	want(t, "some are too large, and some are not", results[api.ErrLarge] > 100 && results[api.OK] > 100, true)
}

// P7.1: an entry of 1000000 is not too large, one of 1000001 is.
func TestLargestMatrix(t *testing.T) {
	for _, c := range []struct {
		powers  [4]int
		largest int // the entry in the upper right corner
		e       api.Errno
	}{
		{[4]int{5, 70, 61, 47}, 999999, api.OK},
		{[4]int{22, 14, 27, 121}, 1000000, api.OK},
		{[4]int{5, 36, 65, 86}, 1000001, api.ErrLarge},
		{[4]int{13, 56, 51, 27}, 1000001, api.ErrLarge},
	} {
		w := ""
		for _, k := range c.powers {
			w += "S" + strings.Repeat("T", k)
		}
		for _, w := range []string{w[1:], "SS" + w[1:], w[1:] + "SS", w} {
			m, f := matrixOf(w)
			x, e := orbit.Matrix(w)
			wantBoth(t, "Matrix of "+w, x, e, m, f)
			want(t, "its error", e, c.e)
			want(t, "its largest entry", e != api.OK || max(m.A, -m.A, m.B, -m.B, m.C, -m.C, m.D, -m.D) == c.largest, true)
		}
	}
	x, e := orbit.Times(unit(1, 999999, 0, 1), unit(1, 1, 0, 1))
	wantBoth(t, "Times", x, e, unit(1, 1000000, 0, 1), api.OK)
	x, e = orbit.Times(unit(1, -999999, 0, 1), unit(1, -1, 0, 1))
	wantBoth(t, "Times", x, e, unit(1, -1000000, 0, 1), api.OK)
}

// someUnits returns all matrices with entries from -n to n.
func someUnits(n int) []api.Unit {
	var all []api.Unit
	for a := -n; a <= n; a++ {
		for b := -n; b <= n; b++ {
			for c := -n; c <= n; c++ {
				for d := -n; d <= n; d++ {
					if a*d-b*c == 1 {
						all = append(all, unit(a, b, c, d))
					}
				}
			}
		}
	}
	return all
}

// randomUnit returns a random matrix with large entries.
func randomUnit(r *rand.Rand) api.Unit {
	m := one()
	for range 1 + r.Intn(20) {
		k := r.Intn(2001) - 1000
		if r.Intn(3) > 0 {
			k = r.Intn(7) - 3
		}
		next, ok := bigOf(m).times(bigOf(unit(k, -1, 1, 0))).unit()
		if !ok {
			break
		}
		m = next
	}
	return m
}

// P7.1: the words of the examples, and those of all small matrices.
func TestWord(t *testing.T) {
	for w, m := range map[string]api.Unit{
		"":    one(),
		"S":   unit(0, -1, 1, 0),
		"SSS": unit(0, 1, -1, 0),
		"T":   unit(1, 1, 0, 1),
		"TST": unit(1, 0, 1, 1),
		"SS":  unit(-1, 0, 0, -1),
		"tt":  unit(1, -2, 0, 1),
		"SSt": unit(-1, 1, 0, -1),
		"SST": unit(-1, -1, 0, -1),
	} {
		x, e := orbit.Word(m)
		wantBoth(t, fmt.Sprint("Word of ", m), x, e, w, api.OK)
	}
	for _, m := range someUnits(7) {
		wantWord(t, m)
	}
	r := rand.New(rand.NewSource(3))
	results := map[api.Errno]int{}
	for range 2000 {
		results[wantWord(t, randomUnit(r))]++
	}
	want(t, "some have words, and some do not", results[api.OK] > 100 && results[api.ErrLarge] > 100, true)
}

// wantWord checks the word of a matrix, and returns the error.
func wantWord(t *testing.T, m api.Unit) api.Errno {
	t.Helper()
	w, f := wordOf(m), api.OK
	if len(w) > 200 {
		w, f = "", api.ErrLarge
	}
	x, e := orbit.Word(m)
	wantBoth(t, fmt.Sprint("Word of ", m), x, e, w, f)
	if e == api.OK {
		y, g := matrixOf(x)
		wantBoth(t, fmt.Sprint("the matrix of the word of ", m), y, g, m, api.OK)
	}
	return e
}

// P7.1: words of 200 and of 201 letters, and matrices that ask for very many letters.
func TestLongWord(t *testing.T) {
	for _, c := range []struct {
		m api.Unit
		e api.Errno
	}{
		{unit(1, 200, 0, 1), api.OK},
		{unit(1, 201, 0, 1), api.ErrLarge},
		{unit(1, -200, 0, 1), api.OK},
		{unit(1, -201, 0, 1), api.ErrLarge},
		{unit(-1, 198, 0, -1), api.OK},
		{unit(-1, 199, 0, -1), api.ErrLarge},
		{unit(199, -1, 1, 0), api.OK},
		{unit(200, -1, 1, 0), api.ErrLarge},
		{unit(100, 9999, 1, 100), api.ErrLarge},
		{unit(100, 9899, 1, 99), api.OK},
		{unit(1, 1000000, 0, 1), api.ErrLarge},
		{unit(1, 0, 1000000, 1), api.ErrLarge},
		{unit(1, 0, -1000000, 1), api.ErrLarge},
		{unit(1, -1000000, 0, 1), api.ErrLarge},
		{unit(1000000, -1, 1, 0), api.ErrLarge},
		{unit(-1000000, 1, -1, 0), api.ErrLarge},
		{unit(1000000, 999999, 999999, 999998), api.ErrForm},
		{unit(1000000, 1, 999999, 1), api.ErrLarge},
		{unit(999999, 1000000, 999998, 999999), api.ErrLarge},
		{unit(999999, -1000000, -999998, 999999), api.ErrLarge},
		{unit(-999999, 1000000, 999998, -999999), api.ErrLarge},
	} {
		_, e := orbit.Word(c.m)
		want(t, fmt.Sprint("Word of ", c.m), e, c.e)
		if e != api.ErrForm {
			wantWord(t, c.m)
		}
	}
}

// P7.1: products and inverses.
func TestTimes(t *testing.T) {
	r := rand.New(rand.NewSource(4))
	results := map[api.Errno]int{}
	check := func(a, b api.Unit) {
		t.Helper()
		m, ok := bigOf(a).times(bigOf(b)).unit()
		f := api.OK
		if !ok {
			f = api.ErrLarge
		}
		x, e := orbit.Times(a, b)
		wantBoth(t, fmt.Sprint("Times of ", a, b), x, e, m, f)
		results[e]++
	}
	list := someUnits(2)
	for _, a := range list {
		for _, b := range list {
			check(a, b)
		}
	}
	for range 2000 {
		a, b := randomUnit(r), randomUnit(r)
		check(a, b)
		x, e := orbit.Inverse(a)
		y, f := orbit.Times(a, x)
		wantBoth(t, fmt.Sprint("Inverse of ", a), y, max(e, f), one(), api.OK)
		check(x, a)
	}
	want(t, "some are too large", results[api.ErrLarge] > 100, true)
	check(unit(1, 1000000, 0, 1), unit(1, 0, 0, 1))
	check(unit(1, 1000000, 0, 1), unit(1, 1, 0, 1))
	check(unit(1, -1000000, 0, 1), unit(1, -1, 0, 1))
	check(unit(1, 1000000, 0, 1), unit(1, 0, 1000000, 1))
	x, e := orbit.Inverse(unit(2, 3, 5, 8))
	wantBoth(t, "Inverse", x, e, unit(8, -3, -5, 2), api.OK)
	x, e = orbit.Inverse(unit(1, -1000000, 0, 1))
	wantBoth(t, "Inverse", x, e, unit(1, 1000000, 0, 1), api.OK)
}

// badUnits are matrices that are no units, with their errors.
func badUnits() map[api.Unit]api.Errno {
	return map[api.Unit]api.Errno{
		{}:                              api.ErrForm,
		unit(1, 0, 0, -1):               api.ErrForm,
		unit(2, 0, 0, 1):                api.ErrForm,
		unit(0, 1, 1, 0):                api.ErrForm,
		unit(1, 1, 1, 1):                api.ErrForm,
		unit(1000000, 0, 0, -1000000):   api.ErrForm,
		unit(1000001, 0, 0, 1):          api.ErrRange,
		unit(1, 1000001, 0, 1):          api.ErrRange,
		unit(1, 0, -1000001, 1):         api.ErrRange,
		unit(0, -1, 1, -1000001):        api.ErrRange,
		unit(-1000001, 0, 0, 0):         api.ErrRange,
		unit(most, 0, 0, 1):             api.ErrRange,
		unit(1, most, 0, 1):             api.ErrRange,
		unit(1, 0, -most-1, 1):          api.ErrRange,
		unit(0, 0, 0, -most-1):          api.ErrRange,
		unit(most, most, most, most):    api.ErrRange,
		unit(1<<32, 1<<32, -1<<32, 1):   api.ErrRange, // the determinant is 1 but for 2^64 and 2^32
		unit(1<<32, -1, 1<<32+1, 1<<32): api.ErrRange,
	}
}

// P7.1: the errors of units.
func TestUnitErrors(t *testing.T) {
	for m, e := range badUnits() {
		w, f := orbit.Word(m)
		wantBoth(t, fmt.Sprint("Word of ", m), w, f, "", e)
		x, f := orbit.Inverse(m)
		wantBoth(t, fmt.Sprint("Inverse of ", m), x, f, api.Unit{}, e)
		for n, g := range badUnits() {
			x, f = orbit.Times(m, n)
			wantBoth(t, fmt.Sprint("Times of ", m, n), x, f, api.Unit{}, e)
			x, f = orbit.Times(one(), n)
			wantBoth(t, fmt.Sprint("Times of the one and ", n), x, f, api.Unit{}, g)
		}
		x, f = orbit.Times(m, unit(1, 1000000, 0, 1))
		wantBoth(t, fmt.Sprint("Times of ", m), x, f, api.Unit{}, e)
	}
}
