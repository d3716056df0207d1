package count_test

import (
	"fmt"
	"math/big"
	"math/rand"
	"slices"
	"testing"

	"flatland/api"
	"flatland/count"
	"flatland/origami"
)

// P9.7: the type of given orders, in any order.
func TestStratum(t *testing.T) {
	c, e := count.Stratum(4, []int{2})
	wantList(t, "Stratum(4, 2)", c, e, []int{3, 1}, api.OK)
	c, e = count.Stratum(1, nil)
	wantList(t, "Stratum(1, nothing)", c, e, []int{1}, api.OK)
	c, e = count.Stratum(20, nil)
	wantList(t, "Stratum(20, nothing)", c, e, ones(20), api.OK)
	c, e = count.Stratum(9, []int{0, 1, 3, 0})
	wantList(t, "Stratum(9, 0 1 3 0)", c, e, []int{4, 2, 1, 1, 1}, api.OK)
	c, e = count.Stratum(19, []int{18})
	wantList(t, "Stratum(19, 18)", c, e, []int{19}, api.OK)
	// Each type comes back from its orders, with all of its zeros, with some and without them.
	r := rand.New(rand.NewSource(11))
	for _, list := range allPartitions()[1:] {
		for _, c := range list {
			var orders []int
			for _, k := range c {
				if k > 1 || r.Intn(2) == 0 {
					orders = append(orders, k-1)
				}
			}
			r.Shuffle(len(orders), func(i, j int) { orders[i], orders[j] = orders[j], orders[i] })
			x, e := count.Stratum(total(c), orders)
			if signOf(c) < 0 {
				wantList(t, fmt.Sprintf("Stratum(%d, %v)", total(c), orders), x, e, nil, api.ErrForm)
			} else {
				wantList(t, fmt.Sprintf("Stratum(%d, %v)", total(c), orders), x, e, c, api.OK)
			}
		}
	}
}

// P9.7: numbers and orders out of range, orders that no origami with so many squares has, and an odd sum, in this order.
func TestStratumErrors(t *testing.T) {
	for _, c := range []struct {
		n      int
		orders []int
		e      api.Errno
	}{
		{0, nil, api.ErrRange}, {21, nil, api.ErrRange}, {-1, []int{-1}, api.ErrRange}, {most, []int{2}, api.ErrRange}, {-most - 1, []int{2}, api.ErrRange},
		{4, []int{-1}, api.ErrRange}, {4, []int{21}, api.ErrRange}, {4, []int{most}, api.ErrRange}, {4, []int{-most - 1, 2}, api.ErrRange},
		{20, []int{20}, api.ErrShape}, {4, []int{5, 21}, api.ErrRange}, {4, []int{20, 20, 20, -1}, api.ErrRange}, {4, []int{most, most, 2}, api.ErrRange},
		{4, []int{4}, api.ErrShape}, {4, []int{3}, api.ErrForm}, {3, []int{3}, api.ErrShape}, {3, []int{2, 0}, api.ErrShape}, {3, []int{1, 1}, api.ErrShape},
		{1, []int{0, 0}, api.ErrShape}, {20, make([]int, 21), api.ErrShape}, {20, make([]int, 100000), api.ErrShape}, {20, []int{19}, api.ErrForm},
		{4, []int{1}, api.ErrForm}, {6, []int{2, 1}, api.ErrForm}, {5, []int{2, 1}, api.ErrForm}, {4, []int{2, 1}, api.ErrShape}, {9, []int{1, 1, 1}, api.ErrForm},
	} {
		x, e := count.Stratum(c.n, c.orders)
		wantList(t, fmt.Sprintf("Stratum(%d, %d orders)", c.n, len(c.orders)), x, e, nil, c.e)
	}
}

// P9.7: the orders of a type, and its genus.
func TestOrders(t *testing.T) {
	l, e := count.Orders([]int{3, 1})
	wantList(t, "Orders of 3 1", l, e, []int{2, 0}, api.OK)
	l, e = count.Orders(nil)
	wantList(t, "Orders of nothing", l, e, nil, api.OK)
	g, e := count.Genus([]int{3, 1})
	wantGenus(t, "3 1", g, e, 2, api.OK)
	g, e = count.Genus(nil)
	wantGenus(t, "nothing", g, e, 1, api.OK)
	g, e = count.Genus([]int{19})
	wantGenus(t, "19", g, e, 10, api.OK)
	for _, c := range [][]int{{2}, {20}, {2, 1}, {4, 3}} {
		g, e := count.Genus(c)
		wantGenus(t, fmt.Sprint(c), g, e, 0, api.ErrForm)
	}
	for _, list := range allPartitions() {
		for _, c := range list {
			l, e := count.Orders(c)
			want(t, fmt.Sprint("the number of the orders of ", c), len(l), len(c))
			want(t, fmt.Sprint("the error of the orders of ", c), e, api.OK)
			for i, d := range l {
				want(t, fmt.Sprint("an order of ", c), d, c[i]-1)
			}
			g, e := count.Genus(c)
			if sum := total(l); sum%2 == 0 {
				wantGenus(t, fmt.Sprint(c), g, e, 1+sum/2, api.OK)
			} else {
				wantGenus(t, fmt.Sprint(c), g, e, 0, api.ErrForm)
			}
		}
	}
}

func wantGenus(t *testing.T, what string, g int, e api.Errno, h int, f api.Errno) {
	t.Helper()
	want(t, "Genus of "+what, g, h)
	want(t, "the error of Genus of "+what, e, f)
}

// P9.7: origamis of a type have its orders and its genus.
func TestOrdersOfOrigamis(t *testing.T) {
	for n := range 7 {
		for _, c := range partitionsOf(t, n) {
			for _, o := range must[[]api.Origami](t)(count.Classes(c)) {
				l, e := count.Orders(c)
				orders, _ := origami.Stratum(o)
				wantList(t, fmt.Sprint("Orders of ", c), l, e, orders, api.OK)
				g, e := count.Genus(c)
				genus, _ := origami.Genus(o)
				wantGenus(t, fmt.Sprint(c), g, e, genus, api.OK)
			}
		}
	}
}

// divisors returns the divisors of n.
func divisors(n int) []int {
	var l []int
	for d := range n {
		if n%(d+1) == 0 {
			l = append(l, d+1)
		}
	}
	return l
}

// P9.8: the sum of the divisors, divided.
func TestTori(t *testing.T) {
	for n := 1; n <= 1000; n++ {
		w, e := count.Tori(n)
		wantRate(t, fmt.Sprintf("Tori(%d)", n), w, e, big.NewRat(int64(total(divisors(n))), int64(n)), api.OK)
	}
	w, e := count.Tori(6)
	wantRate(t, "Tori(6)", w, e, big.NewRat(2, 1), api.OK)
	w, e = count.Tori(4)
	wantRate(t, "Tori(4)", w, e, big.NewRat(7, 4), api.OK)
	for _, n := range []int{0, -1, 1001, most, -most - 1} {
		w, e := count.Tori(n)
		want(t, fmt.Sprintf("the error of Tori(%d)", n), e, api.ErrRange)
		want(t, fmt.Sprintf("Tori(%d) has no value", n), len(w.Num)+len(w.Den), 0)
	}
}

// P9.8: the formula as a fraction.
func TestPrimitive(t *testing.T) {
	for n, p := range map[int]int{2: 0, 3: 3, 4: 9, 5: 27, 6: 36, 7: 90, 8: 108} {
		x, e := count.Primitive(n)
		wantBig(t, fmt.Sprintf("Primitive(%d)", n), x, e, big.NewInt(int64(p)), api.OK)
	}
	for n := 2; n <= 1000; n++ {
		f := big.NewRat(int64(3*(n-2)*n*n), 8)
		for _, q := range divisors(n) {
			if len(divisors(q)) == 2 {
				f.Mul(f, big.NewRat(int64(q*q-1), int64(q*q)))
			}
		}
		want(t, fmt.Sprintf("Primitive(%d) is an integer", n), f.IsInt(), true)
		x, e := count.Primitive(n)
		wantBig(t, fmt.Sprintf("Primitive(%d)", n), x, e, f.Num(), api.OK)
	}
	for _, n := range []int{1, 0, -1, 1001, most, -most - 1} {
		x, e := count.Primitive(n)
		wantList(t, fmt.Sprintf("Primitive(%d)", n), x, e, nil, api.ErrRange)
	}
}

// P9.8: the origamis of the stratum (2) whose periods are all whole vectors, counted.
func TestPrimitiveOrigamis(t *testing.T) {
	for n := 3; n <= 6; n++ {
		found := 0
		for _, o := range must[[]api.Origami](t)(count.Classes(must[[]int](t)(count.Stratum(n, []int{2})))) {
			if l, _ := origami.Periods(o); l == (api.Lattice{A: 1, B: 0, C: 1}) {
				found++
			}
		}
		x, e := count.Primitive(n)
		wantList(t, fmt.Sprintf("Primitive(%d)", n), x, e, []int{found}, api.OK)
	}
}

// P9.11: the weights of tori.
func TestWeightOfTori(t *testing.T) {
	for n := 1; n <= 20; n++ {
		w, e := count.Weight(ones(n))
		wantRate(t, fmt.Sprintf("Weight of %d squares of a torus", n), w, e, rateOf(must[api.Rate](t)(count.Tori(n))), api.OK)
	}
}

// P9.12: the weights of the stratum (2).
func TestWeightOfH2(t *testing.T) {
	for n := 3; n <= 20; n++ {
		sum := new(big.Int)
		for _, d := range divisors(n) {
			if n/d >= 3 {
				primitive := must[[]int](t)(count.Primitive(n / d))
				sum.Add(sum, times(big.NewInt(int64(total(divisors(d)))), bigOf(primitive)))
			}
		}
		c := must[[]int](t)(count.Stratum(n, []int{2}))
		want(t, fmt.Sprintf("the type of the stratum (2) with %d squares", n), slices.Equal(c, append([]int{3}, ones(n-3)...)), true)
		w, e := count.Weight(c)
		wantRate(t, fmt.Sprint("Weight of ", c), w, e, new(big.Rat).SetInt(sum), api.OK)
	}
}
