package exchange_test

import (
	"math"
	"math/big"
	"math/rand"
	"slices"
	"testing"

	"flatland/api"
	"flatland/exchange"
	"flatland/field"
)

// after is rows or an exchange after steps, with the matrix.
type after struct {
	x      api.Exchange
	kinds  []int
	matrix [][]int
}

func sameAfter(a, b after) bool {
	return sameExchange(a.x, b.x) && slices.Equal(a.kinds, b.kinds) && sameMatrix(a.matrix, b.matrix)
}

// onlyRows returns rows after steps, with the matrix.
func onlyRows(r api.Rows, matrix [][]int) after {
	return after{x: api.Exchange{Top: r.Top, Bottom: r.Bottom}, matrix: matrix}
}

// P5.3, P5.4: examples 2 and 6.
func TestStepExample(t *testing.T) {
	x := over(t, "0 1 / 1 0", 3, 2)
	y, kind, e := exchange.Step(x)
	wantSame(t, "Step", sameAfter, after{x: y, kinds: []int{kind}}, e, after{x: over(t, "0 1 / 1 0", 1, 2), kinds: []int{1}}, api.OK)
	r, m, e := exchange.Move(rowsOf(x), 1)
	wantSame(t, "Move", sameAfter, onlyRows(r, m), e, onlyRows(rowsOf(x), [][]int{{1, 1}, {0, 1}}), api.OK)
	r, m, e = exchange.Move(rowsOf(x), 0)
	wantSame(t, "Move", sameAfter, onlyRows(r, m), e, onlyRows(rowsOf(x), [][]int{{1, 0}, {1, 1}}), api.OK)
	l, e := exchange.Cone(x, []int{1})
	wantSame(t, "Cone", sameNums, l, e, wholes(1, 2), api.OK)
	l, e = exchange.Cone(x, []int{0})
	wantSame(t, "Cone", sameNums, l, e, nil, api.ErrNone)
	l, e = exchange.Cone(x, nil)
	wantSame(t, "Cone of no steps", sameNums, l, e, wholes(3, 2), api.OK)
	r, m, e = exchange.Follow(rowsOf(x), nil)
	wantSame(t, "Follow of no steps", sameAfter, onlyRows(r, m), e, onlyRows(rowsOf(x), [][]int{{1, 0}, {0, 1}}), api.OK)
	y, kinds, m, e := exchange.Path(x, 0)
	wantSame(t, "Path of no steps", sameAfter, after{y, kinds, m}, e, after{x: x, matrix: [][]int{{1, 0}, {0, 1}}}, api.OK)
	y, kinds, m, e = exchange.Path(x, 2)
	wantSame(t, "Path", sameAfter, after{y, kinds, m}, e, after{over(t, "0 1 / 1 0", 1, 1), []int{1, 0}, [][]int{{2, 1}, {1, 1}}}, api.OK)
	y, kinds, m, e = exchange.Path(x, 3)
	wantSame(t, "Path up to a tie", sameAfter, after{y, kinds, m}, e, after{}, api.ErrTie)
}

// P5.3: steps of both kinds with more letters: the last letter is put right behind the winner, in the other row.
func TestMoveLetters(t *testing.T) {
	for _, c := range []struct {
		from  string
		kind  int
		to    string
		entry [2]int
	}{
		{"0 1 2 / 2 1 0", 0, "0 1 2 / 2 0 1", [2]int{2, 0}},
		{"0 1 2 / 2 1 0", 1, "0 2 1 / 2 1 0", [2]int{0, 2}},
		{"3 1 0 2 / 2 0 3 1", 0, "3 1 0 2 / 2 1 0 3", [2]int{2, 1}},
		{"3 1 0 2 / 2 0 3 1", 1, "3 1 2 0 / 2 0 3 1", [2]int{1, 2}},
		{"0 1 2 3 / 3 2 0 1", 1, "0 1 3 2 / 3 2 0 1", [2]int{1, 3}},
		{"0 1 2 / 1 2 0", 0, "0 1 2 / 1 2 0", [2]int{2, 0}},
	} {
		right := rows(t, c.to)
		_, m := follow(right, nil)
		m[c.entry[0]][c.entry[1]] = 1
		r, matrix, e := exchange.Move(rows(t, c.from), c.kind)
		wantSame(t, "Move of "+c.from, sameAfter, onlyRows(r, matrix), e, onlyRows(right, m), api.OK)
	}
}

// P5.3: kinds that are none, numbers of steps out of range, ties.
func TestPathErrors(t *testing.T) {
	x := over(t, "0 1 / 1 0", 3, 2)
	for _, kind := range []int{-1, 2, 3, math.MinInt, math.MaxInt} {
		r, m, e := exchange.Move(rowsOf(x), kind)
		wantSame(t, "Move of no kind", sameAfter, onlyRows(r, m), e, after{}, api.ErrRange)
		for _, kinds := range [][]int{{kind}, {1, 0, kind}, append(make([]int, api.MaxPath-1), kind)} {
			r, m, e = exchange.Follow(rowsOf(x), kinds)
			wantSame(t, "Follow of no kind", sameAfter, onlyRows(r, m), e, after{}, api.ErrRange)
			l, e := exchange.Cone(x, kinds)
			wantSame(t, "Cone of no kind", sameNums, l, e, nil, api.ErrRange)
		}
		many := append(make([]int, api.MaxPath), kind)
		r, m, e = exchange.Follow(rowsOf(x), many)
		wantSame(t, "Follow of too many", sameAfter, onlyRows(r, m), e, after{}, api.ErrLarge)
		l, e := exchange.Cone(x, many)
		wantSame(t, "Cone of too many", sameNums, l, e, nil, api.ErrLarge)
	}
	for _, n := range []int{-1, api.MaxPath + 1, math.MinInt, math.MaxInt} {
		y, kinds, m, e := exchange.Path(x, n)
		wantSame(t, "Path", sameAfter, after{y, kinds, m}, e, after{}, api.ErrRange)
		// A tie is found only when steps are made.
		y, kinds, m, e = exchange.Path(over(t, "0 1 / 1 0", 2, 2), n)
		wantSame(t, "Path from a tie", sameAfter, after{y, kinds, m}, e, after{}, api.ErrRange)
	}
	tie := over(t, "0 1 2 / 2 1 0", 2, 5, 2)
	tie.Lengths[0] = api.Num{C: []api.Int{{-100000006, 1}, nil, {7}}, D: []int{-3}} // also 2
	y, kind, e := exchange.Step(tie)
	wantSame(t, "Step", sameAfter, after{x: y, kinds: []int{kind}}, e, after{kinds: []int{0}}, api.ErrTie)
	y, kinds, m, e := exchange.Path(tie, 1)
	wantSame(t, "Path", sameAfter, after{y, kinds, m}, e, after{}, api.ErrTie)
	y, _, _, e = exchange.Path(tie, 0)
	wantSame(t, "Path of no steps from a tie", sameExchange, y, e, over(t, "0 1 2 / 2 1 0", 2, 5, 2), api.OK)
}

// P5.3: as many steps as can be made; the numbers of the matrix are Fibonacci numbers for the rotation by the golden section.
func TestLongPath(t *testing.T) {
	f, _ := field.Cosine(5)
	x := over(t, "0 1 / 1 0", 1, 1)
	x.Field = f
	x.Lengths[0] = api.Num{C: []api.Int{nil, {1}}}
	y, kinds, m, e := exchange.Path(x, api.MaxPath)
	fibonacci := []int{0, 1}
	for range api.MaxPath {
		fibonacci = append(fibonacci, fibonacci[len(fibonacci)-1]+fibonacci[len(fibonacci)-2])
	}
	f60, f59, f61 := fibonacci[60], fibonacci[59], fibonacci[61]
	var right []int
	for i := range api.MaxPath {
		right = append(right, (i+1)%2)
	}
	wantList(t, "kinds of the golden rotation", kinds, e, right, api.OK)
	wantSame(t, "its matrix", sameMatrix, m, e, [][]int{{f61, f60}, {f60, f59}}, api.OK)
	r := open(t, f)
	for i, row := range m {
		sum := r.Add(r.Mul(field.Whole(row[0]), y.Lengths[0]), r.Mul(field.Whole(row[1]), y.Lengths[1]))
		want(t, "an old length", sameNum(sum, r.Normal(x.Lengths[i])), true)
	}
	rows, n, e := exchange.Follow(rowsOf(x), kinds)
	wantSame(t, "Follow", sameAfter, onlyRows(rows, n), e, onlyRows(rowsOf(x), m), api.OK)
	l, e := exchange.Cone(x, kinds)
	wantSame(t, "Cone", sameNums, l, e, y.Lengths, api.OK)
}

// P5.3: steps against the definitions. P5.10: the rows stay irreducible, the determinant is 1, and the matrix makes the old lengths of the new ones.
func TestPath(t *testing.T) {
	r := rand.New(rand.NewSource(8))
	ties, long := 0, 0
	for i := range 300 {
		m := randomModel(r, 2+r.Intn(7), i%4, false)
		x := untidyExchange(r, m.exchange())
		n := r.Intn(13)
		if r.Intn(20) == 0 {
			n = api.MaxPath
		}
		last, kinds := m, []int(nil)
		for range n {
			next, kind := last.step()
			y, k, e := exchange.Step(last.exchange())
			if kind < 0 {
				wantSame(t, "Step of a tie", sameAfter, after{x: y, kinds: []int{k}}, e, after{kinds: []int{0}}, api.ErrTie)
				kinds = append(kinds, kind)
				break
			}
			y.Field = next.exchange().Field // which tells whether there are lengths that are no fractions
			wantSame(t, "Step", sameAfter, after{x: y, kinds: []int{k}}, e, after{x: next.exchange(), kinds: []int{kind}}, api.OK)
			last, kinds = next, append(kinds, kind)
		}
		y, k, matrix, e := exchange.Path(x, n)
		if slices.Contains(kinds, -1) {
			ties++
			wantSame(t, "Path to a tie", sameAfter, after{y, k, matrix}, e, after{}, api.ErrTie)
			continue
		}
		long += n
		rows, right := follow(rowsOf(x), kinds)
		want := api.Exchange{Field: x.Field, Top: rows.Top, Bottom: rows.Bottom, Lengths: nums(last.lengths)}
		wantSame(t, "Path", sameAfter, after{y, k, matrix}, e, after{want, kinds, right}, api.OK)
		z, product, e := exchange.Follow(rowsOf(x), kinds)
		wantSame(t, "Follow", sameAfter, onlyRows(z, product), e, onlyRows(rows, right), api.OK)
		checkPath(t, m, last, matrix)
		cone, e := exchange.Cone(x, kinds)
		wantSame(t, "Cone", sameNums, cone, e, nums(last.lengths), api.OK)
	}
	want(t, "there are ties and long paths", ties > 30 && long > 500, true)
}

// checkPath checks a path from one exchange to another one.
func checkPath(t *testing.T, from, to model, matrix [][]int) {
	t.Helper()
	want(t, "the determinant", determinant(matrix).Cmp(big.NewRat(1, 1)), 0)
	want(t, "the rows are reducible", isReducible(api.Rows{Top: to.top, Bottom: to.bottom}), false)
	for i, row := range matrix {
		sum := whole(0)
		for j, f := range row {
			sum = sum.plus(to.multiple(f, to.lengths[j]))
		}
		want(t, "an old length", sum.minus(from.lengths[i]).sign(), 0)
	}
}

// P5.4: lengths that are made of positive numbers by the matrix of a path: their first steps have these kinds; and a cone has none of other lengths.
func TestCone(t *testing.T) {
	r := rand.New(rand.NewSource(9))
	none := 0
	for i := range 200 {
		m := randomModel(r, 2+r.Intn(7), i%4, false)
		x := m.exchange()
		var kinds []int
		for range r.Intn(25) {
			kinds = append(kinds, r.Intn(2))
		}
		_, matrix := follow(rowsOf(x), kinds)
		big := model{top: m.top, bottom: m.bottom}
		for _, row := range matrix {
			sum := whole(0)
			for j, f := range row {
				sum = sum.plus(m.multiple(f, m.lengths[j]))
			}
			big.lengths = append(big.lengths, sum)
		}
		l, e := exchange.Cone(untidyExchange(r, big.exchange()), kinds)
		wantSame(t, "Cone", sameNums, l, e, nums(m.lengths), api.OK)
		_, k, _, e := exchange.Path(big.exchange(), len(kinds))
		wantList(t, "the kinds of its path", k, e, kinds, api.OK)
		if len(kinds) == 0 {
			continue
		}
		// Of other kinds at the end one of the numbers is not positive.
		other := slices.Clone(kinds)
		other[r.Intn(len(other))] ^= 1
		l, e = exchange.Cone(big.exchange(), other)
		wantSame(t, "Cone of other kinds", sameNums, l, e, nil, api.ErrNone)
		none++
	}
	want(t, "some have no numbers", none > 100, true)
	l, e := exchange.Cone(over(t, "0 1 / 1 0", 2, 2), []int{0})
	wantSame(t, "Cone of a tie", sameNums, l, e, nil, api.ErrNone)
	// Between the steps a number may be 0 or negative, and positive again; it is not at the end.
	l, e = exchange.Cone(over(t, "0 1 / 1 0", 5, 2), []int{0, 1})
	wantSame(t, "Cone with a negative number between", sameNums, l, e, nil, api.ErrNone)
}

// P5.10: the step is the first return to the interval whose length is the total less the lesser one of both last letters.
func TestStepIsReturn(t *testing.T) {
	r := rand.New(rand.NewSource(10))
	for i := range 150 {
		m := randomModel(r, 2+r.Intn(7), i%4, false)
		x := m.exchange()
		y, _, e := exchange.Step(x)
		if e == api.ErrTie {
			continue
		}
		length, e := exchange.Total(y)
		want(t, "Total", e, api.OK)
		n := len(m.top)
		lesser := m.lengths[m.top[n-1]]
		if z := m.lengths[m.bottom[n-1]]; z.less(lesser) {
			lesser = z
		}
		want(t, "the total after the step", sameNum(length, m.total().minus(lesser).num()), true)
		for range 12 {
			p := m.point(r)
			if !p.less(surdOf(length)) {
				continue
			}
			q, _, e := exchange.Return(x, p.num(), length)
			want(t, "Return", e, api.OK)
			z, _, e := exchange.Apply(y, p.num())
			wantSame(t, "Apply after the step", sameNum, z, e, q, api.OK)
		}
	}
}
