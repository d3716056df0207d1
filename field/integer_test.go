package field_test

import (
	"math"
	"math/big"
	"math/rand"
	"slices"
	"strings"
	"testing"

	"flatland/api"
	"flatland/field"
)

// P1.1: normal forms.
func TestNormalInteger(t *testing.T) {
	for _, x := range []struct{ list, normal []int }{
		{nil, nil},
		{[]int{}, nil},
		{[]int{0, 0, 0}, nil},
		{[]int{100000000, -1}, nil},
		{[]int{100000000, 0}, []int{0, 1}},
		{[]int{-1, 1}, []int{99999999}},
		{[]int{5, -1}, []int{-99999995}},
		{[]int{5, 0, 0, -1}, []int{-99999995, -99999999, -99999999}},
		{[]int{99999999}, []int{99999999}},
		{[]int{-100000000}, []int{0, -1}},
		{[]int{1, 2, 3, 0}, []int{1, 2, 3}},
		{[]int{math.MaxInt}, []int{54775807, 33720368, 922}},
		{[]int{math.MinInt}, []int{-54775808, -33720368, -922}},
		{[]int{math.MinInt, 92233720368}, []int{-54775808}},
	} {
		wantList(t, "Normal", field.Normal(x.list), x.normal)
	}
	r := rand.New(rand.NewSource(1))
	for range 5000 {
		x := randomInt(r, 7)
		wantInt(t, "Normal", field.Normal(x), bigOf(x))
	}
	wantInt(t, "Normal of the largest elements", field.Normal(slices.Repeat([]int{math.MaxInt}, 300)), bigOf(slices.Repeat([]int{math.MaxInt}, 300)))
}

// P1.1: machine integers.
func TestMachineIntegers(t *testing.T) {
	for _, n := range []int{0, 1, -1, 99999999, 100000000, -100000000, 9999999999999999, 10000000000000000, math.MaxInt, math.MinInt, math.MaxInt - 1, math.MinInt + 1} {
		wantInt(t, "Of", field.Of(n), big.NewInt(int64(n)))
		back, ok := field.Small(field.Of(n))
		want(t, "Small", back, n)
		want(t, "Small's truth value", ok, true)
	}
	for _, x := range [][]int{{54775808, 33720368, 922}, {-54775809, -33720368, -922}, {0, 0, 923}, {0, 0, 0, 1}, {0, 0, -5000}, {math.MaxInt, 1}, {0, math.MaxInt}, slices.Repeat([]int{1}, 40)} {
		n, ok := field.Small(x)
		want(t, "Small of a large integer", n, 0)
		want(t, "its truth value", ok, false)
	}
	n, ok := field.Small([]int{math.MaxInt, 1, 0, 5, -1, 0, -5})
	want(t, "Small of a mixed list that is large", n, 0)
	want(t, "its truth value", ok, false)
	n, ok = field.Small([]int{math.MaxInt, -1, 0, 0})
	want(t, "Small of a list that is not in normal form", n, math.MaxInt-100000000)
	want(t, "its truth value", ok, true)
}

// P1.1: sums, products, quotients and comparisons.
func TestIntegerArithmetic(t *testing.T) {
	r := rand.New(rand.NewSource(2))
	for range 20000 {
		x, y := randomInt(r, 8), randomInt(r, 5)
		a, b := bigOf(x), bigOf(y)
		wantInt(t, "Add", field.Add(x, y), new(big.Int).Add(a, b))
		wantInt(t, "Sub", field.Sub(x, y), new(big.Int).Sub(a, b))
		wantInt(t, "Mul", field.Mul(x, y), new(big.Int).Mul(a, b))
		want(t, "Cmp", field.Cmp(x, y), a.Cmp(b))
		want(t, "Cmp of equal ones", field.Cmp(x, field.Normal(x)), 0)
		checkDivision(t, x, y)
	}
}

// checkDivision checks a quotient, its remainder and the greatest common divisor.
func checkDivision(t *testing.T, x, y []int) {
	t.Helper()
	a, b := bigOf(x), bigOf(y)
	wantInt(t, "Gcd", field.Gcd(x, y), new(big.Int).GCD(nil, nil, new(big.Int).Abs(a), new(big.Int).Abs(b)))
	q, m, e := field.DivMod(x, y)
	if b.Sign() == 0 {
		want(t, "DivMod by 0", e, api.ErrZero)
		wantList(t, "its quotient", q, nil)
		wantList(t, "its remainder", m, nil)
		return
	}
	c, d := new(big.Int).DivMod(a, b, new(big.Int))
	want(t, "DivMod", e, api.OK)
	wantInt(t, "DivMod", q, c)
	wantInt(t, "DivMod's remainder", m, d)
}

// P1.1: divisions with common divisors, and with digits that are hard to guess.
func TestDivisions(t *testing.T) {
	for _, x := range []struct{ x, y, q, r int }{{-7, 2, -4, 1}, {7, -2, -3, 1}, {-7, -2, 4, 1}, {7, 2, 3, 1}, {-8, 2, -4, 0}, {0, -3, 0, 0}, {1, -3, 0, 1}, {-1, 3, -1, 2}, {math.MinInt, 1, math.MinInt, 0}} {
		q, r, e := field.DivMod(field.Of(x.x), field.Of(x.y))
		want(t, "DivMod", e, api.OK)
		wantList(t, "DivMod", q, field.Of(x.q))
		wantList(t, "DivMod's remainder", r, field.Of(x.r))
	}
	for _, zero := range [][]int{nil, {0}, {0, 0}, {100000000, -1}} {
		checkDivision(t, []int{7}, zero)
		checkDivision(t, zero, zero)
		checkDivision(t, zero, []int{0, 0, 7})
	}
	r := rand.New(rand.NewSource(3))
	for range 5000 {
		g, x, y := randomInt(r, 4), randomInt(r, 6), randomInt(r, 6)
		checkDivision(t, field.Mul(x, g), field.Mul(y, g))
		v := []int{99999999 * r.Intn(2), 99999999 * r.Intn(2), 50000000 - r.Intn(2)}
		checkDivision(t, field.Sub(field.Mul(v, x), []int{r.Intn(3)}), v)
		checkDivision(t, []int{r.Intn(2), 0, 50000000 - r.Intn(2), 49999999 + r.Intn(3)}, []int{99999999 * r.Intn(2), r.Intn(2), 50000000})
	}
	a, b := []int{1}, []int{1}
	for range 3000 { // neighbours among Fibonacci's numbers need the most steps
		a, b = b, field.Add(a, b)
	}
	wantList(t, "Gcd of Fibonacci numbers", field.Gcd(b, a), []int{1})
}

// P1.1: products so long that their sums do not fit into an int.
func TestLongProducts(t *testing.T) {
	for _, n := range []int{511, 512, 513, 1500} {
		x := slices.Repeat([]int{99999999}, n)
		y := slices.Repeat([]int{-99999999}, 2*n)
		wantInt(t, "Mul of long integers", field.Mul(x, y), new(big.Int).Mul(bigOf(x), bigOf(y)))
		checkDivision(t, field.Mul(x, y), field.Add(x, []int{1, 5}))
	}
}

// P1.2: texts of integers.
func TestIntegerTexts(t *testing.T) {
	for _, x := range []struct {
		list []int
		text string
	}{
		{nil, "0"}, {[]int{0, 0}, "0"}, {[]int{7}, "7"}, {[]int{-7}, "-7"}, {[]int{5, -1}, "-99999995"},
		{[]int{-5, 0, -1}, "-10000000000000005"}, {[]int{12345678, 9}, "912345678"}, {[]int{100000000, -1}, "0"},
	} {
		want(t, "Format", field.Format(x.list), x.text)
		back, e := field.Parse(x.text)
		want(t, "Parse", e, api.OK)
		wantList(t, "Parse", back, field.Normal(x.list))
	}
	r := rand.New(rand.NewSource(4))
	for range 3000 {
		x := randomInt(r, 9)
		want(t, "Format", field.Format(x), bigOf(x).String())
		back, e := field.Parse(bigOf(x).String())
		want(t, "Parse", e, api.OK)
		wantInt(t, "Parse", back, bigOf(x))
	}
}

// P1.2: what is no text of an integer.
func TestIntegerSyntax(t *testing.T) {
	for _, s := range []string{"", "-", "-0", "00", "01", "-01", "+1", " 1", "1 ", "x", "1x", "--1", "1-", "1,2", "0x1", "1_0", "1e3", "1.0", "١", "1\n", "\x00", strings.Repeat("0", 400), "/", ":"} {
		x, e := field.Parse(s)
		want(t, "Parse of "+s, e, api.ErrSyntax)
		wantList(t, "Parse of "+s, x, nil)
	}
	for _, s := range []string{strings.Repeat("1", 401), "-" + strings.Repeat("1", 400), strings.Repeat("x", 401)} {
		x, e := field.Parse(s)
		want(t, "Parse of a long text", e, api.ErrLarge)
		wantList(t, "Parse of a long text", x, nil)
	}
	for _, s := range []string{strings.Repeat("9", 400), "-" + strings.Repeat("9", 399)} {
		x, e := field.Parse(s)
		want(t, "Parse of 400 bytes", e, api.OK)
		want(t, "and back", field.Format(x), s)
	}
}

// P1.11: integers are a commutative ring.
func TestRing(t *testing.T) {
	r := rand.New(rand.NewSource(5))
	for range 2000 {
		x, y, z := randomInt(r, 5), randomInt(r, 5), randomInt(r, 5)
		wantList(t, "x + y", field.Add(x, y), field.Add(y, x))
		wantList(t, "x y", field.Mul(x, y), field.Mul(y, x))
		wantList(t, "x (y + z)", field.Mul(x, field.Add(y, z)), field.Add(field.Mul(x, y), field.Mul(x, z)))
		wantList(t, "(x y) z", field.Mul(field.Mul(x, y), z), field.Mul(x, field.Mul(y, z)))
		wantList(t, "(x + y) + z", field.Add(field.Add(x, y), z), field.Add(x, field.Add(y, z)))
		wantList(t, "x - x", field.Sub(x, x), nil)
	}
}
