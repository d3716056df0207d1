package exchange_test

import (
	"math"
	"math/big"
	"math/rand"
	"slices"
	"testing"

	"flatland/api"
	"flatland/exchange"
	"flatland/field"
)

// P5.2: example 1.
func TestApplyExample(t *testing.T) {
	x := over(t, "0 1 / 1 0", 3, 2)
	for p, want := range []image{{field.Whole(2), 0}, {field.Whole(3), 0}, {field.Whole(4), 0}, {field.Whole(0), 1}, {field.Whole(1), 1}} {
		q, letter, e := exchange.Apply(x, field.Whole(p))
		wantSame(t, "Apply", sameImage, image{q, letter}, e, want, api.OK)
	}
	points, code, e := exchange.Orbit(x, ratio(1, 2), 6)
	wantSame(t, "Orbit", sameNums, points, e, []api.Num{ratio(1, 2), ratio(5, 2), ratio(9, 2), ratio(3, 2), ratio(7, 2), ratio(1, 2), ratio(5, 2)}, api.OK)
	wantList(t, "the code", code, e, []int{0, 0, 1, 0, 1, 0}, api.OK)
	y, e := exchange.Inverse(x)
	wantSame(t, "Inverse", sameExchange, y, e, over(t, "1 0 / 0 1", 3, 2), api.OK)
	l, e := exchange.Connections(x, 10)
	wantList(t, "Connections", l, e, []api.Connection{{From: 0, To: 1, Steps: 3}}, api.OK)
}

// P5.2: points outside of the interval, and numbers of steps out of range.
func TestOutside(t *testing.T) {
	x := over(t, "0 1 / 1 0", 3, 2)
	for _, p := range []api.Num{field.Whole(-1), ratio(-1, 1000000), field.Whole(5), ratio(5000001, 1000000), {C: []api.Int{append(make([]int, 30), 1)}}, {C: []api.Int{{5}}, D: []int{100000001, -1}}, {C: []api.Int{{10}}, D: []int{2}}} {
		q, letter, e := exchange.Apply(x, p)
		wantSame(t, "Apply outside", sameImage, image{q, letter}, e, image{}, api.ErrRange)
		points, code, e := exchange.Orbit(x, p, 3)
		wantSame(t, "Orbit outside", sameNums, points, e, nil, api.ErrRange)
		wantList(t, "the code outside", code, e, nil, api.ErrRange)
	}
	// w and w - 1 are inside of the interval from 0 to 1 + w, and 1 + w and 1 - w are not.
	for _, c := range []struct {
		p api.Num
		e api.Errno
	}{{api.Num{C: []api.Int{nil, {1}}}, api.OK}, {api.Num{C: []api.Int{{-1}, {1}}}, api.OK}, {api.Num{C: []api.Int{{1}, {1}}}, api.ErrRange}, {api.Num{C: []api.Int{{1}, {-1}}}, api.ErrRange}} {
		_, _, e := exchange.Apply(diagonal(t), c.p)
		want(t, "Apply near the ends", e, c.e)
	}
	for _, n := range []int{-1, api.MaxPoints + 1, math.MinInt, math.MaxInt} {
		points, code, e := exchange.Orbit(x, field.Whole(1), n)
		wantSame(t, "Orbit", sameNums, points, e, nil, api.ErrRange)
		wantList(t, "the code", code, e, nil, api.ErrRange)
		l, e := exchange.Connections(x, n)
		wantList(t, "Connections", l, e, nil, api.ErrRange)
	}
	points, code, e := exchange.Orbit(x, api.Num{}, 0)
	wantSame(t, "Orbit without images", sameNums, points, e, wholes(0), api.OK)
	wantList(t, "the code without letters", code, e, nil, api.OK)
	points, code, e = exchange.Orbit(x, api.Num{}, api.MaxPoints)
	want(t, "Orbit", e, api.OK)
	want(t, "points of the longest orbit", len(points), 2001)
	want(t, "letters of the longest orbit", len(code), 2000)
	want(t, "the last point is the first one", sameNum(points[2000], field.Whole(0)), true)
}

// P5.2, P5.10: the map against the definitions; the inverse undoes it.
func TestApply(t *testing.T) {
	r := rand.New(rand.NewSource(4))
	for i := range 300 {
		m := randomModel(r, 2+r.Intn(7), i%4, true)
		x := m.exchange()
		back, e := exchange.Inverse(untidyExchange(r, x))
		wantSame(t, "Inverse", sameExchange, back, e, model{m.bottom, m.top, m.lengths}.exchange(), api.OK)
		for range 6 {
			p := m.point(r)
			q, c := m.apply(p)
			y, letter, e := exchange.Apply(untidyExchange(r, x), untidy(r, p.num(), x.Field.Poly))
			wantSame(t, "Apply", sameImage, image{y, letter}, e, image{q.num(), c}, api.OK)
			y, letter, e = exchange.Apply(back, y)
			wantSame(t, "Apply and back", sameImage, image{y, letter}, e, image{p.num(), c}, api.OK)
		}
		p := m.point(r)
		points, code, n := []surd{p}, []int(nil), r.Intn(30)
		for range n {
			q, c := m.apply(points[len(points)-1])
			points, code = append(points, q), append(code, c)
		}
		l, letters, e := exchange.Orbit(untidyExchange(r, x), untidy(r, p.num(), x.Field.Poly), n)
		wantSame(t, "Orbit", sameNums, l, e, nums(points), api.OK)
		wantList(t, "the code", letters, e, code, api.OK)
	}
}

// P5.2: connections against the definitions, by letters and in the order of Bottom; also of rows that are reducible, where both beginnings may be the same point.
func TestConnections(t *testing.T) {
	r := rand.New(rand.NewSource(5))
	found, none, zero := 0, 0, 0
	for i := range 300 {
		m := randomModel(r, 2+r.Intn(7), i%4, true)
		bound := []int{0, 1, 5, 40}[r.Intn(4)]
		right := m.connections(bound)
		l, e := exchange.Connections(untidyExchange(r, m.exchange()), bound)
		wantList(t, "Connections", l, e, right, api.OK)
		found, none = found+len(right), none+len(m.top)-1-len(right)
		for _, c := range right {
			if c.Steps == 0 {
				zero++
			}
		}
	}
	want(t, "there are connections, and bottom intervals without", found > 100 && none > 100 && zero > 20, true)
	x := over(t, "0 1 / 1 0", 3, 2)
	for bound, right := range [][]api.Connection{nil, nil, nil, {{From: 0, To: 1, Steps: 3}}, {{From: 0, To: 1, Steps: 3}}} {
		l, e := exchange.Connections(x, bound)
		wantList(t, "Connections of example 1", l, e, right, api.OK)
	}
	l, e := exchange.Connections(over(t, "0 1 2 / 0 1 2", 3, 2, 1), 0)
	wantList(t, "Connections of equal rows", l, e, []api.Connection{{From: 1, To: 1}, {From: 2, To: 2}}, api.OK)
	l, e = exchange.Connections(over(t, "2 0 1 / 1 0 2", 1, 1, 1), 9)
	wantList(t, "Connections of equal lengths", l, e, []api.Connection{{From: 0, To: 0}, {From: 2, To: 1}}, api.OK)
	l, e = exchange.Connections(over(t, "0 1 2 / 2 1 0", 1, 1, 2), 9)
	wantList(t, "Connections of three letters", l, e, []api.Connection{{From: 1, To: 2}, {From: 0, To: 1, Steps: 1}}, api.OK)
	// A rotation by an irrational part of the total has none; one by 1 less than the total comes to each whole number.
	l, e = exchange.Connections(diagonal(t), api.MaxPoints)
	wantList(t, "Connections of a rotation without one", l, e, nil, api.OK)
	for bound, right := range map[int][]api.Connection{1999: nil, 2000: {{From: 0, To: 1, Steps: 2000}}} {
		l, e = exchange.Connections(over(t, "0 1 / 1 0", 2001, 1), bound)
		wantList(t, "Connections of a long rotation", l, e, right, api.OK)
	}
}

// P5.5: first returns against the definitions.
func TestReturn(t *testing.T) {
	r := rand.New(rand.NewSource(6))
	for i := range 300 {
		m := randomModel(r, 2+r.Intn(7), i%4, true)
		x := m.exchange()
		length := m.total().times(big.NewRat(int64(1+r.Intn(8)), 8))
		p := m.point(r)
		if !p.less(length) {
			q, steps, e := exchange.Return(x, p.num(), length.num())
			wantSame(t, "Return from outside", sameImage, image{q, steps}, e, image{}, api.ErrRange)
			continue
		}
		q, _ := m.apply(p)
		steps := 1
		for ; !q.less(length); steps++ {
			q, _ = m.apply(q)
		}
		y, n, e := exchange.Return(untidyExchange(r, x), untidy(r, p.num(), x.Field.Poly), untidy(r, length.num(), x.Field.Poly))
		wantSame(t, "Return", sameImage, image{y, n}, e, image{q.num(), steps}, api.OK)
	}
}

// P5.5: what is out of range, and how long is waited.
func TestReturnEnds(t *testing.T) {
	x := over(t, "0 1 / 1 0", 3, 2)
	for _, c := range []struct {
		p, length api.Num
		e         api.Errno
	}{
		{field.Whole(0), field.Whole(0), api.ErrRange},
		{field.Whole(0), field.Whole(-1), api.ErrRange},
		{field.Whole(0), ratio(5001, 1000), api.ErrRange},
		{field.Whole(-1), field.Whole(5), api.ErrRange},
		{field.Whole(5), field.Whole(5), api.ErrRange},
		{field.Whole(1), field.Whole(1), api.ErrRange},
		{ratio(-1, 9), field.Whole(1), api.ErrRange},
		{ratio(999, 1000), field.Whole(1), api.OK},
		{field.Whole(0), field.Whole(5), api.OK},
		{ratio(4999, 1000), field.Whole(5), api.OK},
	} {
		p, n, e := exchange.Return(x, c.p, c.length)
		want(t, "Return", e, c.e)
		if e != api.OK {
			wantSame(t, "Return beside an error", sameImage, image{p, n}, e, image{}, e)
		}
	}
	p, n, e := exchange.Return(x, ratio(1, 2), field.Whole(1))
	wantSame(t, "Return", sameImage, image{p, n}, e, image{ratio(1, 2), 5}, api.OK)
	p, n, e = exchange.Return(over(t, "0 1 / 1 0", 1999, 1), field.Whole(0), field.Whole(1))
	wantSame(t, "Return after the most steps", sameImage, image{p, n}, e, image{field.Whole(0), 2000}, api.OK)
	p, n, e = exchange.Return(over(t, "0 1 / 1 0", 2000, 1), field.Whole(0), field.Whole(1))
	wantSame(t, "Return after one step more", sameImage, image{p, n}, e, image{}, api.ErrOpen)
	// Of reducible rows a part of the interval may stay where it is.
	p, n, e = exchange.Return(over(t, "0 1 / 0 1", 3, 2), field.Whole(1), field.Whole(2))
	wantSame(t, "Return of equal rows", sameImage, image{p, n}, e, image{field.Whole(1), 1}, api.OK)
}

// P5.10: the exchange is a bijection: the images of the top intervals are side by side, in the order of Bottom.
func TestBijection(t *testing.T) {
	r := rand.New(rand.NewSource(7))
	for i := range 60 {
		m := randomModel(r, 2+r.Intn(7), i%4, true)
		x := m.exchange()
		var images []surd
		for _, c := range m.bottom {
			y, letter, e := exchange.Apply(x, m.before(m.top, c).num())
			wantList(t, "the letter of a beginning", []int{letter}, e, []int{c}, api.OK)
			images = append(images, surdOf(y))
		}
		want(t, "the first image", images[0].sign(), 0)
		want(t, "the images ascend", slices.IsSortedFunc(images, func(x, y surd) int { return x.minus(y).sign() }), true)
		images = append(images, m.total())
		for i, c := range m.bottom {
			want(t, "an image is as long as its letter says", images[i+1].minus(images[i]).minus(m.lengths[c]).sign(), 0)
		}
	}
}
