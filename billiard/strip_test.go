package billiard_test

import (
	"math"
	"math/big"
	"math/rand"
	"slices"
	"testing"

	"flatland/api"
	"flatland/billiard"
	"flatland/field"
)

// P2.5: the number of hits, and corners.
func TestStripErrors(t *testing.T) {
	for _, c := range []struct {
		what string
		s    api.State
		n    int
		e    api.Errno
	}{
		{"no side, and n -1", state(4, 1, 2, 1, 1), -1, api.ErrMissing},
		{"n -1", state(0, 1, 2, 1, 2), -1, api.ErrRange},
		{"n 201", state(0, 1, 2, 1, 2), 201, api.ErrRange},
		{"the least n", state(0, 1, 2, 1, 2), math.MinInt, api.ErrRange},
		{"a corner", state(0, 1, 2, 1, 2), 1, api.ErrCorner},
		{"a corner later on", state(0, 1, 2, 1, 4), 2, api.ErrCorner},
	} {
		b, e := billiard.Strip(square(), c.s, c.n)
		wantSame(t, "Strip with "+c.what, sameBeam, b, e, api.Beam{}, c.e)
	}
	b, e := billiard.Strip(square(), state(0, 1, 2, 1, 2), 0)
	wantSame(t, "Strip without hits", sameBeam, b, e, api.Beam{Lo: ratio(0, 1), Hi: ratio(1, 1), Square: ratio(4, 5)}, api.OK)
	b, e = billiard.Strip(square(), state(0, 1, 2, 1, 4), 1)
	wantSame(t, "Strip before a corner", sameBeam, b, e, api.Beam{Lo: ratio(0, 1), Hi: ratio(3, 4), Square: ratio(9, 17)}, api.OK)
	b, e = billiard.Strip(angle(), state(0, 1, 4, 0, 2), 2)
	wantSame(t, "Strip beside a reflex corner", sameBeam, b, e, api.Beam{Lo: ratio(0, 1), Hi: ratio(1, 2), Square: ratio(1, 1)}, api.OK)
	b, e = billiard.Strip(cave(), state(0, 17, 22, 0, 1), 2)
	wantSame(t, "Strip beside a bay", sameBeam, b, e, api.Beam{Lo: ratio(12, 22), Hi: ratio(21, 22), Square: ratio(81, 1)}, api.OK)
}

// P2.5: strips over the fractions, compared with the places at which the code is the same one.
func TestStripRandom(t *testing.T) {
	r := rand.New(rand.NewSource(9))
	for k := range 120 {
		p := randomPolygon(r, 3+k%10)
		s := randomState(r, p)
		checkStrip(t, r, p, s, 1+r.Intn(4))
	}
	for range 40 {
		s := randomState(r, cave())
		checkStrip(t, r, cave(), s, 1+r.Intn(3))
	}
}

func checkStrip(t *testing.T, r *rand.Rand, p api.Table, s api.State, n int) {
	t.Helper()
	b, e := billiard.Strip(untidyTable(r, p), untidyState(r, s, p.Field.Poly), n)
	g := points(p)
	m := g.movingOf(s)
	code := g.code(m, n)
	if len(code) < n {
		wantSame(t, "Strip to a corner", sameBeam, b, e, api.Beam{}, api.ErrCorner)
		return
	}
	low, high, _ := g.strip(s.Side, m.dir, code)
	width := mul(sub(high, low), g.side(s.Side).cross(m.dir))
	wantSame(t, "Strip in"+text(p), sameBeam, b, e, api.Beam{Lo: numOf(low), Hi: numOf(high), Square: numOf(quo(mul(width, width), m.dir.dot(m.dir)))}, api.OK)
}

// P2.9: the states within the strip have the code, those at its ends hit a corner.
func TestStripEnds(t *testing.T) {
	r5, five := pentagon(t)
	r2, four := kite(t)
	for _, c := range []struct {
		r *field.Real
		p api.Table
		s api.State
	}{{r5, five, state(1, 2, 5, 1, -3)}, {r5, five, state(3, 1, 7, 0, 1)}, {r2, four, state(0, 1, 5, 1, 2)}, {r2, four, state(3, 2, 3, -1, -3)}, {r2, four, state(2, 1, 4, -5, 1)}} {
		for _, n := range []int{1, 2, 3, 5, 8, 20} {
			code, e := billiard.Code(c.p, c.s, n)
			want(t, "Code", e, api.OK)
			b, e := billiard.Strip(c.p, c.s, n)
			want(t, "Strip", e, api.OK)
			want(t, "the strip holds its state", c.r.Cmp(b.Lo, c.s.T) < 0 && c.r.Cmp(c.s.T, b.Hi) < 0, true)
			width := c.r.Sub(b.Hi, b.Lo)
			for _, f := range []api.Num{ratio(1, 1000000), ratio(1, 2), ratio(2, 3), ratio(999999, 1000000)} {
				s := c.s
				s.T = c.r.Add(b.Lo, c.r.Mul(f, width))
				again, e := billiard.Code(c.p, s, n)
				wantCode(t, "Code within the strip", again, e, code, api.OK)
			}
			for _, end := range []api.Num{b.Lo, b.Hi} {
				s := c.s
				s.T = end
				if billiard.CheckState(c.p, s) == api.OK {
					_, e = billiard.Code(c.p, s, n)
					want(t, "Code at the end of the strip", e, api.ErrCorner)
				}
			}
			v, _ := billiard.Side(c.p, c.s.Side)
			across := c.r.Mul(width, c.r.Cross(v, c.s.Dir))
			long := c.r.Add(c.r.Mul(c.s.Dir.X, c.s.Dir.X), c.r.Mul(c.s.Dir.Y, c.s.Dir.Y))
			wantSame(t, "the squared width", sameNum, c.r.Mul(b.Square, long), 0, c.r.Mul(across, across), 0)
		}
	}
}

// P2.6: stability.
func TestStable(t *testing.T) {
	for _, c := range []struct {
		code []int
		ok   bool
	}{
		{nil, false}, {[]int{}, false}, {[]int{0, 1, 2}, true}, {[]int{1, 2, 3, 0}, false}, {[]int{5}, true}, {[]int{0, 1}, false}, {[]int{0, 0}, true}, {[]int{0, 1, 1, 0}, true},
		{[]int{0, 1, 2, 0, 1, 2}, true}, {[]int{0, 1, 0, 1}, false}, {[]int{0, 1, 2, 1}, false}, {[]int{0, 1, 2, 0, 2, 1}, false}, {[]int{-1, math.MaxInt, math.MinInt, -1, math.MaxInt, math.MinInt}, true},
		{[]int{math.MaxInt, math.MinInt}, false}, {[]int{0, 0, 0}, true}, {[]int{0, 1, 0, 1, 1, 0, 1, 0}, true}, {[]int{0, 2, 0, 1, 1, 0}, false},
	} {
		if billiard.Stable(c.code) != c.ok {
			t.Errorf("Stable of %v: %v", c.code, !c.ok)
		}
	}
}

// P2.7: examples, and codes without a state.
func TestPeriodic(t *testing.T) {
	for _, c := range []struct {
		what string
		p    api.Table
		code []int
		s    api.State
		e    api.Errno
	}{
		{"the square, around", square(), []int{1, 2, 3, 0}, state(0, 1, 2, 2, 2), api.OK},
		{"the square, up and down", square(), []int{0, 2}, state(2, 1, 2, 0, -2), api.OK},
		{"the square, twice up and down", square(), []int{0, 2, 0, 2}, state(2, 1, 2, 0, -4), api.OK},
		{"the square, the other way round", square(), []int{3, 2, 1, 0}, state(0, 1, 2, -2, 2), api.OK},
		{"no code", square(), nil, api.State{}, api.ErrNone},
		{"one side", square(), []int{0}, api.State{}, api.ErrNone},
		{"three sides", square(), []int{0, 1, 2}, api.State{}, api.ErrNone},
		{"one side twice", square(), []int{1, 1}, api.State{}, api.ErrNone},
		{"a linear part that is not the identity", square(), []int{0, 1}, api.State{}, api.ErrNone},
		{"the square, not in this order", square(), []int{0, 2, 1, 3}, api.State{}, api.ErrNone},
		{"the L, in its left part", angle(), []int{0, 4}, state(4, 1, 2, 0, -4), api.OK},
		{"the L, in its lower part", angle(), []int{1, 5}, state(5, 3, 4, 4, 0), api.OK},
		{"the L, below the inner side", angle(), []int{0, 2}, state(2, 1, 2, 0, -2), api.OK},
		{"the L, through a side", angle(), []int{2, 4}, api.State{}, api.ErrNone},
		{"the cave, beside the bay", cave(), []int{0, 9}, state(9, 3, 14, 0, -20), api.OK},
		{"the cave, beside its arm", cave(), []int{0, 2}, state(2, 1, 52, 0, -28), api.OK},
		{"the cave, through its arm", cave(), []int{2, 5}, api.State{}, api.ErrNone},
		{"the cave, in the upper arm", cave(), []int{2, 7}, state(7, 1, 2, 0, 4), api.OK},
	} {
		s, e := billiard.Periodic(c.p, c.code)
		wantSame(t, "Periodic: "+c.what, sameState, s, e, c.s, c.e)
	}
}

// periodic returns what Periodic has to return, by the definition.
func (g ring) periodic(code []int) (api.State, api.Errno) {
	n := len(code)
	if n == 0 || n%2 == 1 || !sameMat(g.linear(code), mat(1, 0, 0, 1)) {
		return api.State{}, api.ErrNone
	}
	dir := g.copies(code)[n][0].minus(g[0])
	if g.side(code[n-1]).cross(dir).Sign() <= 0 {
		return api.State{}, api.ErrNone
	}
	low, high, ok := g.strip(code[n-1], dir, code)
	if !ok {
		return api.State{}, api.ErrNone
	}
	return api.State{Side: code[n-1], T: numOf(quo(add(low, high), whole(2))), Dir: dir.vec()}, api.OK
}

// rightAngled returns polygons, most of them with right angles: many of their codes are periodic.
func rightAngled(r *rand.Rand) api.Table {
	list := []api.Table{
		square(), angle(), triangle(), cave(),
		polygon(0, 0, 1, 0, 1, 1, 2, 1, 2, 0, 3, 0, 3, 3, 0, 3),
		polygon(0, 0, 4, 0, 4, 4, 0, 4, 0, 3, 3, 3, 3, 1, 0, 1),
		polygon(0, 0, 5, 0, 5, 5, 1, 5, 1, 2, 3, 2, 3, 3, 2, 3, 2, 4, 4, 4, 4, 1, 0, 1),
		polygon(0, 0, 4, 0, 2, 1, 4, 4, 0, 4, 1, 2),
		polygon(0, 0, 8, 0, 6, 2, 8, 4, 8, 8, 5, 3, 0, 8),
		polygon(0, 0, 6, 0, 3, 6),
	}
	return list[r.Intn(len(list))]
}

// P2.7: periodic codes over the fractions, compared with the definition.
func TestPeriodicRandom(t *testing.T) {
	r := rand.New(rand.NewSource(10))
	found := 0
	for range 600 {
		p := rightAngled(r)
		g := points(p)
		code := randomCode(r, len(p.Corners), 2*r.Intn(3))
		if r.Intn(2) == 0 {
			// A code of a trajectory, with its way back, is more often periodic.
			code = g.code(g.movingOf(randomState(r, p)), 1+r.Intn(4))
			for _, i := range slices.Backward(code[:max(0, len(code)-1)]) {
				code = append(code, i)
			}
			code = append(code, randomCode(r, len(p.Corners), len(code)%2)...)
		}
		if len(code) > 8 {
			continue
		}
		wantS, wantE := g.periodic(code)
		s, e := billiard.Periodic(untidyTable(r, p), code)
		wantSame(t, "Periodic in"+text(p), sameState, s, e, wantS, wantE)
		if e == api.OK {
			found++
		}
	}
	if found < 30 {
		t.Errorf("only %d periodic codes", found)
	}
}

// notched returns a polygon with sides in two directions that cross at right angles, and with up to 12 corners: a rectangle with notches, inwards and outwards.
func notched(r *rand.Rand) api.Table {
	p := polygon(0, 0, 12, 0, 12, 12, 0, 12)
	for range 40 {
		g := points(p)
		k := r.Intn(len(g))
		a, v := g[k], g.side(k)
		out := point{v.y, v.x}.times(big.NewRat(int64(r.Intn(25)-12), 12))
		from, to := r.Intn(7), 7+r.Intn(6)
		b, c := a.plus(v.times(big.NewRat(int64(from), 12))), a.plus(v.times(big.NewRat(int64(to), 12)))
		q := api.Table{Field: p.Field}
		for i, at := range g {
			if i != k || from > 0 {
				q.Corners = append(q.Corners, at.vec())
			}
			if i == k && from > 0 {
				q.Corners = append(q.Corners, b.vec())
			}
			if i == k {
				q.Corners = append(q.Corners, b.plus(out).vec(), c.plus(out).vec())
			}
			if i == k && to < 12 {
				q.Corners = append(q.Corners, c.vec())
			}
		}
		if billiard.Check(q) == api.OK {
			p = q
		}
	}
	return p
}

// P2.7: periodic codes between reflex corners, compared with the definition.
func TestPeriodicNotched(t *testing.T) {
	r := rand.New(rand.NewSource(12))
	found := 0
	for range 40 {
		p := notched(r)
		g := points(p)
		for range 6 {
			s := randomState(r, p)
			if r.Intn(2) == 0 {
				s.Dir = vec(r.Intn(3)-1, r.Intn(3)-1)
			}
			if billiard.CheckState(p, s) != api.OK {
				continue
			}
			checkStrip(t, r, p, s, 4)
			code := g.code(g.movingOf(s), 2+2*r.Intn(3))
			if len(code) > 0 && r.Intn(3) == 0 {
				code[r.Intn(len(code))] = r.Intn(len(g))
			}
			wantS, wantE := g.periodic(code)
			s, e := billiard.Periodic(p, code)
			wantSame(t, "Periodic in"+text(p), sameState, s, e, wantS, wantE)
			if e == api.OK {
				found++
			}
		}
	}
	if found < 20 {
		t.Errorf("only %d periodic codes", found)
	}
}

// types returns what Types has to return, by the definition.
func (g ring) types(n int) [][]int {
	var list [][]int
	for length := 2; length <= n; length += 2 {
		count := new(big.Int).Exp(big.NewInt(int64(len(g))), big.NewInt(int64(length)), nil)
		for k := range count.Int64() {
			code := make([]int, length)
			for i := range code {
				code[length-1-i] = int(k) % len(g)
				k /= int64(len(g))
			}
			if least(code) {
				if _, e := g.periodic(code); e == api.OK {
					list = append(list, code)
				}
			}
		}
	}
	return list
}

// least reports whether a code is no greater than its rotations, and no repetition of a shorter one of even length.
func least(code []int) bool {
	n := len(code)
	for k := range n {
		if slices.Compare(append(slices.Clone(code[k:]), code[:k]...), code) < 0 {
			return false
		}
	}
	for m := 2; m < n; m += 2 {
		if n%m == 0 && slices.Equal(slices.Repeat(code[:m], n/m), code) {
			return false
		}
	}
	return true
}

func sameCodes(a, b [][]int) bool { return slices.EqualFunc(a, b, slices.Equal) }

// P2.7: all periodic codes.
func TestTypes(t *testing.T) {
	types, e := billiard.Types(square(), 2)
	wantSame(t, "Types of the square", sameCodes, types, e, [][]int{{0, 2}, {1, 3}}, api.OK)
	types, e = billiard.Types(square(), 3)
	wantSame(t, "Types of the square up to 3", sameCodes, types, e, [][]int{{0, 2}, {1, 3}}, api.OK)
	types, e = billiard.Types(square(), 4)
	wantSame(t, "Types of the square up to 4", sameCodes, types, e, [][]int{{0, 2}, {1, 3}, {0, 1, 2, 3}, {0, 3, 2, 1}}, api.OK)
	// The triangle has an angle of a quarter turn at corner 0. In the acute one the sides are met in turn, which is a code of three elements, twice.
	types, e = billiard.Types(polygon(0, 0, 6, 0, 3, 6), 6)
	wantSame(t, "Types of an acute triangle", sameCodes, types, e, points(polygon(0, 0, 6, 0, 3, 6)).types(6), api.OK)
	want(t, "the sides in turn", slices.ContainsFunc(types, func(c []int) bool { return slices.Equal(c, []int{0, 1, 2, 0, 1, 2}) }), true)
	r := rand.New(rand.NewSource(11))
	for _, c := range []struct {
		p api.Table
		n int
	}{
		{triangle(), 6}, {angle(), 4}, {cave(), 2}, {square(), 6},
		{polygon(0, 0, 1, 0, 1, 1, 2, 1, 2, 0, 3, 0, 3, 3, 0, 3), 4}, {polygon(0, 0, 5, 0, 5, 5, 1, 5, 1, 2, 3, 2, 3, 3, 2, 3, 2, 4, 4, 4, 4, 1, 0, 1), 2},
	} {
		types, e := billiard.Types(untidyTable(r, c.p), c.n)
		wantSame(t, "Types of"+text(c.p), sameCodes, types, e, points(c.p).types(c.n), api.OK)
	}
}

// P2.7: the bounds of Types.
func TestTypesErrors(t *testing.T) {
	seven := polygon(0, 0, 2, -1, 4, -1, 6, 0, 7, 2, 6, 4, 0, 4)
	for _, c := range []struct {
		what string
		p    api.Table
		n    int
		e    api.Errno
	}{
		{"no table, and n -1", polygon(0, 0), -1, api.ErrShape},
		{"n -1", square(), -1, api.ErrRange},
		{"n 9", square(), 9, api.ErrRange},
		{"the greatest n", square(), math.MaxInt, api.ErrRange},
		{"the least n", square(), math.MinInt, api.ErrRange},
		{"n 0", square(), 0, api.OK},
		{"n 1", square(), 1, api.OK},
		{"4 sides, n 7", square(), 7, api.ErrLarge},
		{"4 sides, n 8", square(), 8, api.ErrLarge},
		{"7 sides, n 5", seven, 5, api.ErrLarge},
		{"12 sides, n 4", cave(), 4, api.ErrLarge},
		{"12 sides, n 8", cave(), 8, api.ErrLarge},
		{"12 sides, n 9", cave(), 9, api.ErrRange},
		{"12 sides, n 3", cave(), 3, api.OK},
	} {
		types, e := billiard.Types(c.p, c.n)
		want(t, "Types with "+c.what, e, c.e)
		if c.e != api.OK || c.n < 2 {
			want(t, "the codes with "+c.what, len(types), 0)
		}
	}
	ten := polygon(0, 0, 4, -2, 8, -3, 12, -2, 15, 0, 15, 5, 12, 8, 8, 9, 4, 8, 0, 5)
	_, e := billiard.Types(ten, 4)
	want(t, "Types with just 10000 codes", e, api.OK)
}

// P2.7, P2.9: what Types and Periodic return is periodic, in the middle of its strip.
func TestPeriodicStates(t *testing.T) {
	r5, five := pentagon(t)
	r2, four := kite(t)
	q := open(t, field.Rational(), api.OK)
	for _, c := range []struct {
		r *field.Real
		p api.Table
		n int
	}{{r5, five, 5}, {r2, four, 6}, {q, triangle(), 8}, {q, cave(), 2}, {q, angle(), 5}} {
		types, e := billiard.Types(c.p, c.n)
		want(t, "Types", e, api.OK)
		if len(types) == 0 && c.r != r2 {
			t.Errorf("no periodic codes in a table of %d sides", len(c.p.Corners))
		}
		for _, code := range types {
			n := len(code)
			s, e := billiard.Periodic(c.p, code)
			want(t, "Periodic", e, api.OK)
			again, e := billiard.Code(c.p, s, n)
			wantCode(t, "Code of Periodic", again, e, code, api.OK)
			states, _ := billiard.Follow(c.p, s, n)
			wantSame(t, "the state after the code", sameState, states[n-1], 0, s, 0)
			want(t, "the side", s.Side, code[n-1])
			moves, _ := billiard.Copies(c.p, code)
			wantSame(t, "the direction", sameVec, s.Dir, 0, moves[n].Shift, 0)
			b, e := billiard.Strip(c.p, s, n)
			wantSame(t, "the middle of the strip", sameNum, c.r.Mul(field.Whole(2), s.T), e, c.r.Add(b.Lo, b.Hi), api.OK)
			k, e := billiard.Period(c.p, s, n)
			want(t, "Period", e, api.OK)
			want(t, "the period divides the number of hits", n%max(k, 1), 0)
		}
	}
}
