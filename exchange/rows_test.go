package exchange_test

import (
	"math/rand"
	"slices"
	"strings"
	"testing"

	"flatland/api"
	"flatland/exchange"
	"flatland/field"
)

// P5.1: rows.
func TestCheckRows(t *testing.T) {
	for what, c := range badRows() {
		want(t, "CheckRows of "+what, exchange.CheckRows(c.r), c.e)
	}
	r := rand.New(rand.NewSource(1))
	for n := 2; n <= api.MaxLetters; n++ {
		for range 20 {
			want(t, "CheckRows of rows", exchange.CheckRows(randomRows(r, n, true)), api.OK)
		}
	}
}

// P5.1: exchanges; each error comes before those that are listed behind it.
func TestCheck(t *testing.T) {
	good := over(t, "0 1 2 / 2 1 0", 1, 2, 3)
	want(t, "Check", exchange.Check(good), api.OK)
	want(t, "Check with lengths over another field", exchange.Check(diagonal(t)), api.OK)
	for what, c := range badRows() {
		x := api.Exchange{Field: field.Rational(), Top: c.r.Top, Bottom: c.r.Bottom, Lengths: wholes(-1)}
		want(t, "Check of "+what, exchange.Check(x), c.e)
		x.Field = api.Field{Poly: []int{1}}
		want(t, "Check of "+what+" over no field", exchange.Check(x), api.ErrShape)
		x.Field = api.Field{Poly: []int{-2, 0, 1}, Lo: -2, Hi: 2, Den: 1}
		want(t, "Check of "+what+" over a field with two roots", exchange.Check(x), api.ErrNone)
	}
	for _, lengths := range [][]api.Num{nil, wholes(1), wholes(1, 2), wholes(0, -1), wholes(1, 2, 3, 4), wholes(0, 0, 0, 0)} {
		x := deep(good)
		x.Lengths = lengths
		want(t, "Check with another number of lengths", exchange.Check(x), api.ErrShape)
	}
	nothing := api.Num{C: []api.Int{{100000000, -1}, {5, 0}, {0}}, D: []int{0}}
	for i := range 3 {
		for _, length := range []api.Num{{}, field.Whole(0), field.Whole(-1), ratio(-1, 100), {C: []api.Int{{1}}, D: api.Int{100000000, -1, -1}}} {
			x := deep(good)
			x.Lengths[i] = length
			want(t, "Check with a length that is not positive", exchange.Check(x), api.ErrZero)
		}
	}
	// Over the fractions w is 0, and over the field of the square root of 2 it is not.
	x := deep(good)
	x.Lengths[2] = nothing
	want(t, "Check with a length 5 w that is 0", exchange.Check(x), api.ErrZero)
	x.Field = root2()
	want(t, "Check with a length 5 w that is not 0", exchange.Check(x), api.OK)
	x.Lengths[2] = api.Num{C: []api.Int{{-3}, {2}}}
	want(t, "Check with the length 2 w - 3", exchange.Check(x), api.ErrZero)
	x.Lengths[2] = api.Num{C: []api.Int{{3}, {-2}}}
	want(t, "Check with the length 3 - 2 w", exchange.Check(x), api.OK)
}

// P5.1: rows are irreducible just if no first letters are the same sets; how many renumbered ones are is known.
func TestIrreducible(t *testing.T) {
	count := 0
	for n := 2; n <= 6; n++ {
		count = 0
		for i, p := range permutations(n) {
			r := api.Rows{Top: identity(n), Bottom: p}
			if i%2 > 0 { // with other names of the letters
				other := rand.New(rand.NewSource(int64(i))).Perm(n)
				for k := range n {
					r.Top[k], r.Bottom[k] = other[r.Top[k]], other[r.Bottom[k]]
				}
			}
			b, e := exchange.Irreducible(r)
			wantList(t, "Irreducible", []bool{b}, e, []bool{!isReducible(r)}, api.OK)
			if b {
				count++
			}
		}
		want(t, "the number of irreducible rows", count, []int{0, 0, 1, 3, 13, 71, 461}[n])
	}
	for what, c := range badRows() {
		b, e := exchange.Irreducible(c.r)
		wantList(t, "Irreducible of "+what, []bool{b}, e, []bool{false}, c.e)
	}
}

// P5.1: renumbered rows, with their lengths by the new letters; totals and shifts.
func TestNormal(t *testing.T) {
	x := over(t, "2 0 1 / 1 2 0", 5, 6, 7)
	y, e := exchange.Normal(x)
	wantSame(t, "Normal", sameExchange, y, e, over(t, "0 1 2 / 2 0 1", 7, 5, 6), api.OK)
	total, e := exchange.Total(x)
	wantSame(t, "Total", sameNum, total, e, field.Whole(18), api.OK)
	// Letter 2 is first at 0, letter 0 at 7, letter 1 at 12, and then at 6, 13 and 0.
	shifts, e := exchange.Shifts(x)
	wantSame(t, "Shifts", sameNums, shifts, e, wholes(6, -12, 6), api.OK)
	shifts, e = exchange.Shifts(over(t, "0 1 / 1 0", 3, 2))
	wantSame(t, "Shifts of example 1", sameNums, shifts, e, wholes(2, -3), api.OK)
	shifts, e = exchange.Shifts(over(t, "1 0 / 1 0", 3, 2))
	wantSame(t, "Shifts of equal rows", sameNums, shifts, e, wholes(0, 0), api.OK)
	r := rand.New(rand.NewSource(2))
	for i := range 200 {
		m := randomModel(r, 2+r.Intn(7), i%4, true)
		x := m.exchange()
		y, e := exchange.Normal(untidyExchange(r, x))
		z := model{top: identity(len(m.top)), bottom: rename(rowsOf(x)).Bottom}
		for _, c := range m.top {
			z.lengths = append(z.lengths, m.lengths[c])
		}
		right := z.exchange()
		wantSame(t, "Normal", sameExchange, y, e, right, api.OK)
		y, e = exchange.Normal(y)
		wantSame(t, "Normal again", sameExchange, y, e, right, api.OK)
		total, e := exchange.Total(untidyExchange(r, x))
		wantSame(t, "Total", sameNum, total, e, m.total().num(), api.OK)
		var shifts []surd
		for c := range m.lengths {
			shifts = append(shifts, m.before(m.bottom, c).minus(m.before(m.top, c)))
		}
		l, e := exchange.Shifts(untidyExchange(r, x))
		wantSame(t, "Shifts", sameNums, l, e, nums(shifts), api.OK)
	}
}

// P5.9: texts of rows.
func TestTexts(t *testing.T) {
	s, e := exchange.Print(api.Rows{Top: []int{0, 1, 2}, Bottom: []int{2, 1, 0}})
	wantList(t, "Print", []string{s}, e, []string{"0 1 2 / 2 1 0"}, api.OK)
	x, e := exchange.Parse("7 0 1 2 3 4 5 6 / 6 5 4 3 2 1 0 7")
	wantSame(t, "Parse", sameRows, x, e, api.Rows{Top: []int{7, 0, 1, 2, 3, 4, 5, 6}, Bottom: []int{6, 5, 4, 3, 2, 1, 0, 7}}, api.OK)
	for n := 2; n <= 4; n++ {
		for _, top := range permutations(n) {
			for _, bottom := range permutations(n) {
				r := api.Rows{Top: top, Bottom: bottom}
				s, e := exchange.Print(r)
				want(t, "Print", e, api.OK)
				x, e := exchange.Parse(s)
				wantSame(t, "Parse of "+s, sameRows, x, e, r, api.OK)
			}
		}
	}
	for what, c := range badRows() {
		s, e := exchange.Print(c.r)
		wantList(t, "Print of "+what, []string{s}, e, []string{""}, c.e)
	}
}

// P5.9: texts of no rows.
func TestNoRows(t *testing.T) {
	for _, s := range []string{
		"", " ", "/", " / ", "0", "0 1", "0 1 /", "/ 0 1", "0 / 0", "0 1 / 1", "0 1 / 1 0 ", " 0 1 / 1 0", "0  1 / 1 0", "0 1  / 1 0", "0 1 /  1 0", "0 1/1 0", "0 1 /1 0", "0 1/ 1 0",
		"0 1 / 1 0\n", "0\t1 / 1 0", "0 1 / 1 0 / 0 1", "0 1 / / 1 0", "0 1 - 1 0", "0 1 / 1 2", "1 2 / 2 1", "0 0 / 0 0", "0 1 2 / 1 0", "0 1 / 2 1 0", "00 1 / 1 0", "0 01 / 1 0", "+0 1 / 1 0", "-0 1 / 1 0", "0 -1 / -1 0", "0 +1 / 1 0",
		"0 x / x 0", "a b / b a", "0 ١ / 1 0", "0 1 / 1 0\x00", "0,1 / 1,0", "0x0 1 / 1 0", "0 1_ / 1 0", "0 1. / 1 0",
		"0 1 2 3 4 5 6 7 8 / 8 7 6 5 4 3 2 1 0", "0 1 2 3 4 5 6 7 / 8 6 5 4 3 2 1 0", "0 18446744073709551617 / 1 0",
		strings.Repeat("0 ", 100) + "/" + strings.Repeat(" 0", 100), strings.Repeat(" ", 1000000),
	} {
		x, e := exchange.Parse(s)
		wantSame(t, "Parse of "+s[:min(40, len(s))], sameRows, x, e, api.Rows{}, api.ErrSyntax)
	}
	// Whatever is read is written so.
	r := rand.New(rand.NewSource(3))
	good := "0 1 2 3 / 3 1 0 2"
	read := 0
	for range 20000 {
		b := []byte(good)
		for range 1 + r.Intn(3) {
			i := r.Intn(len(b))
			switch c := "0123 /"[r.Intn(6)]; r.Intn(3) {
			case 0:
				b[i] = c
			case 1:
				b = slices.Insert(b, i, c)
			default:
				b = slices.Delete(b, i, i+1)
			}
		}
		x, e := exchange.Parse(string(b))
		if e == api.OK {
			read++
			s, e := exchange.Print(x)
			wantList(t, "Print", []string{s}, e, []string{string(b)}, api.OK)
			continue
		}
		wantSame(t, "Parse of "+string(b), sameRows, x, e, api.Rows{}, api.ErrSyntax)
	}
	want(t, "some texts are read", read > 100, true)
}
