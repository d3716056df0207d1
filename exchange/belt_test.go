package exchange_test

import (
	"math/big"
	"math/rand"
	"testing"

	"flatland/api"
	"flatland/exchange"
	"flatland/field"
)

// P5.7: example 3; equal rows, whose belts are bounded by beginnings of intervals where the exchange does not jump; a belt that is wider than the unit.
func TestBeltExamples(t *testing.T) {
	half := over(t, "0 1 / 1 0", 1, 1)
	half.Lengths = []api.Num{ratio(3, 7), ratio(2, 7)}
	for _, c := range []struct {
		what  string
		x     api.Exchange
		belts []api.Belt
	}{
		{"example 1", over(t, "0 1 / 1 0", 3, 2), []api.Belt{{Left: field.Whole(0), Width: field.Whole(1), Code: []int{0, 0, 1, 0, 1}}}},
		{"example 1 with fractions", half, []api.Belt{{Left: field.Whole(0), Width: ratio(1, 7), Code: []int{0, 0, 1, 0, 1}}}},
		{"lengths with a common divisor", over(t, "0 1 / 1 0", 300, 200), []api.Belt{{Left: field.Whole(0), Width: field.Whole(100), Code: []int{0, 0, 1, 0, 1}}}},
		{"equal lengths", over(t, "0 1 / 1 0", 7, 7), []api.Belt{{Left: field.Whole(0), Width: field.Whole(7), Code: []int{0, 1}}}},
		{"equal rows", over(t, "1 0 / 1 0", 3, 2), []api.Belt{{Left: field.Whole(0), Width: field.Whole(2), Code: []int{1}}, {Left: field.Whole(2), Width: field.Whole(3), Code: []int{0}}}},
		{"two parts", over(t, "0 1 2 3 / 1 0 3 2", 2, 2, 1, 2), []api.Belt{{Left: field.Whole(0), Width: field.Whole(2), Code: []int{0, 1}}, {Left: field.Whole(4), Width: field.Whole(1), Code: []int{2, 3, 3}}}},
		// 0 to 1 and 4 to 5 change places; 1 to 4, as one interval of three units, stays.
		{"a belt of three units", over(t, "0 1 2 / 2 1 0", 1, 3, 1), []api.Belt{{Left: field.Whole(0), Width: field.Whole(1), Code: []int{0, 2}}, {Left: field.Whole(1), Width: field.Whole(3), Code: []int{1}}}},
	} {
		l, e := exchange.Belts(c.x)
		wantSame(t, "Belts of "+c.what, sameBelts, l, e, c.belts, api.OK)
	}
}

// P5.7: lengths that are no whole multiples of one number, or too many.
func TestNoBelts(t *testing.T) {
	l, e := exchange.Belts(diagonal(t))
	wantSame(t, "Belts of the lengths 1 and w", sameBelts, l, e, nil, api.ErrOpen)
	x := diagonal(t)
	x.Lengths[0] = api.Num{C: []api.Int{nil, {2}}, D: []int{3}}
	l, e = exchange.Belts(x)
	third := api.Num{C: []api.Int{nil, {1}}, D: []int{3}}
	wantSame(t, "Belts of the lengths 2 w/3 and w", sameBelts, l, e, []api.Belt{{Left: field.Whole(0), Width: third, Code: []int{0, 1, 0, 1, 1}}}, api.OK)
	x.Lengths[0] = api.Num{C: []api.Int{{1}, {1}}}
	l, e = exchange.Belts(x)
	wantSame(t, "Belts of the lengths 1 + w and w", sameBelts, l, e, nil, api.ErrOpen)
	x.Lengths[1] = api.Num{C: []api.Int{{2}, {2}}, D: []int{7}}
	l, e = exchange.Belts(x)
	seventh := api.Num{C: []api.Int{{1}, {1}}, D: []int{7}}
	wantSame(t, "Belts of the lengths 1 + w and 2/7 of it", sameBelts, l, e, []api.Belt{{Left: field.Whole(0), Width: seventh, Code: []int{0, 0, 0, 0, 1, 0, 0, 0, 1}}}, api.OK)
	for _, c := range []struct {
		x api.Exchange
		e api.Errno
	}{
		{over(t, "0 1 / 1 0", 1999, 1), api.OK},
		{over(t, "0 1 / 1 0", 2000, 1), api.ErrOpen},
		{over(t, "0 1 / 1 0", 1, 1999), api.OK},
		{over(t, "0 1 / 1 0", 1, 2000), api.ErrOpen},
		{over(t, "0 1 / 1 0", 1001, 999), api.OK},
		{over(t, "0 1 / 1 0", 1001, 1000), api.ErrOpen},
		{over(t, "0 1 / 1 0", 2002, 2000), api.ErrOpen},
		{over(t, "0 1 / 1 0", 3000, 900), api.OK},
		{over(t, "0 1 2 / 2 1 0", 667, 667, 666), api.OK},
		{over(t, "0 1 2 / 2 1 0", 667, 667, 667), api.OK},
		{over(t, "0 1 2 / 2 1 0", 667, 667, 668), api.ErrOpen},
	} {
		l, e := exchange.Belts(c.x)
		want(t, "Belts", e, c.e)
		if c.e != api.OK {
			wantSame(t, "Belts beside an error", sameBelts, l, e, nil, c.e)
		}
	}
	// Numbers of 240 digits: one unit, three and five of them; then one that is hardly more.
	far := append(make([]int, 30), 7)
	y := over(t, "0 1 2 / 2 0 1", 1, 1, 1)
	y.Lengths = []api.Num{{C: []api.Int{far}}, {C: []api.Int{field.Mul(far, []int{3})}}, {C: []api.Int{field.Mul(far, []int{5})}}}
	l, e = exchange.Belts(y)
	unit := api.Num{C: []api.Int{far}, D: []int{1}}
	wantSame(t, "Belts of long numbers", sameBelts, l, e, []api.Belt{{Left: field.Whole(0), Width: unit, Code: []int{0, 2, 1, 2, 1, 2, 1, 2, 2}}}, api.OK)
	y.Lengths[1].C[0] = field.Add(y.Lengths[1].C[0], []int{1})
	l, e = exchange.Belts(y)
	wantSame(t, "Belts of long numbers without a common unit", sameBelts, l, e, nil, api.ErrOpen)
}

// P5.7: belts against the definitions. P5.10: their widths, each one times the length of its code, add up to the total.
func TestBelts(t *testing.T) {
	r := rand.New(rand.NewSource(14))
	wide, several := 0, 0
	for i := range 300 {
		m := randomModel(r, 2+r.Intn(7), 0, i%3 > 0)
		unit := []surd{whole(1), {big.NewRat(3, 7), new(big.Rat)}, {big.NewRat(-1, 2), big.NewRat(5, 4)}}[r.Intn(3)]
		g := new(big.Int)
		for _, x := range m.lengths {
			g.GCD(nil, nil, g, x.a.Num())
		}
		for c, x := range m.lengths {
			m.lengths[c] = unit.times(x.a)
		}
		step := unit.times(new(big.Rat).SetInt(g))
		right := m.belts(step)
		l, e := exchange.Belts(untidyExchange(r, m.exchange()))
		wantSame(t, "Belts", sameBelts, l, e, right, api.OK)
		sum := whole(0)
		for _, x := range l {
			sum = sum.plus(m.multiple(len(x.Code), surdOf(x.Width)))
			if !sameNum(x.Width, step.num()) {
				wide++
			}
		}
		want(t, "the widths add up to the total", sum.minus(m.total()).sign(), 0)
		if len(l) > 1 {
			several++
		}
	}
	want(t, "there are wide belts, and several of one exchange", wide > 50 && several > 50, true)
}
