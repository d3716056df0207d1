package billiard_test

import (
	"math"
	"math/rand"
	"slices"
	"testing"

	"flatland/api"
	"flatland/billiard"
	"flatland/field"
)

// P2.2: the errors of states.
func TestCheckState(t *testing.T) {
	for _, c := range []struct {
		what string
		s    api.State
		e    api.Errno
	}{
		{"a state", state(0, 1, 2, 1, 1), api.OK},
		{"a place near the end", state(0, 999, 1000, 1, 1), api.OK},
		{"no side and no place", state(4, 3, 2, 0, -1), api.ErrMissing},
		{"side -1", state(-1, 1, 2, 1, 1), api.ErrMissing},
		{"the greatest side", state(math.MaxInt, 1, 2, 1, 1), api.ErrMissing},
		{"the least side", state(math.MinInt, 1, 2, 1, 1), api.ErrMissing},
		{"T 0", state(0, 0, 1, 1, 1), api.ErrRange},
		{"T 1, and no direction", state(0, 1, 1, 0, 0), api.ErrRange},
		{"a negative T", state(0, -1, 2, 1, 1), api.ErrRange},
		{"a T above 1", state(0, 3, 2, 1, 1), api.ErrRange},
		{"no T", api.State{Dir: vec(1, 1)}, api.ErrRange},
		{"no direction", state(0, 1, 2, 0, 0), api.ErrForm},
		{"along the side", state(0, 1, 2, 1, 0), api.ErrForm},
		{"back along the side", state(2, 1, 2, 1, 0), api.ErrForm},
		{"outside", state(0, 1, 2, 1, -1), api.ErrForm},
		{"a T that is not in normal form", api.State{T: api.Num{C: []api.Int{{-2}}, D: []int{-5, 0}}, Dir: vec(0, 1)}, api.OK},
	} {
		want(t, "CheckState of "+c.what, billiard.CheckState(square(), c.s), c.e)
		_, e := billiard.Place(square(), c.s)
		want(t, "Place of "+c.what, e, c.e)
		_, e = billiard.Reverse(square(), c.s)
		want(t, "Reverse of "+c.what, e, c.e)
		if c.e != api.OK {
			_, e = billiard.Next(square(), c.s)
			want(t, "Next of "+c.what, e, c.e)
		}
	}
	want(t, "CheckState of a bad table", billiard.CheckState(polygon(0, 0, 1, 0), state(9, 2, 1, 0, 0)), api.ErrShape)
}

// P2.2: examples 1 to 3 and 5.
func TestExamples(t *testing.T) {
	s := state(0, 1, 2, 1, 1)
	v, e := billiard.Place(square(), s)
	wantSame(t, "Place", sameVec, v, e, api.Vec{X: ratio(1, 2), Y: ratio(0, 1)}, api.OK)
	n, e := billiard.Next(square(), s)
	wantSame(t, "Next", sameState, n, e, state(1, 1, 2, -1, 1), api.OK)
	code, e := billiard.Code(square(), s, 4)
	wantCode(t, "Code", code, e, []int{1, 2, 3, 0}, api.OK)
	k, e := billiard.Period(square(), s, 4)
	wantCode(t, "Period", []int{k}, e, []int{4}, api.OK)
	b, e := billiard.Strip(square(), s, 4)
	wantSame(t, "Strip", sameBeam, b, e, api.Beam{Lo: ratio(0, 1), Hi: ratio(1, 1), Square: ratio(1, 2)}, api.OK)
	n, e = billiard.Next(square(), state(0, 1, 2, 1, 2))
	wantSame(t, "Next to the corner", sameState, n, e, api.State{}, api.ErrCorner)
	n, e = billiard.Reverse(square(), s)
	wantSame(t, "Reverse", sameState, n, e, state(0, 1, 2, -1, 1), api.OK)
	n, e = billiard.Next(triangle(), state(0, 1, 2, 0, 1))
	wantSame(t, "Next in the triangle", sameState, n, e, api.State{Side: 1, T: ratio(1, 2), Dir: api.Vec{X: ratio(-24, 25), Y: ratio(-7, 25)}}, api.OK)
}

// P2.2: corners that end a trajectory, and corners that do not.
func TestCorners(t *testing.T) {
	for _, c := range []struct {
		what string
		p    api.Table
		s    api.State
		side int
		e    api.Errno
	}{
		{"along a side behind a reflex corner", angle(), state(0, 1, 2, 0, 1), 0, api.ErrCorner},
		{"touching a reflex corner", angle(), state(0, 3, 4, -1, 2), 0, api.ErrCorner},
		{"beside the reflex corner, to its left", angle(), state(0, 74, 100, -1, 2), 4, api.OK},
		{"beside the reflex corner, to its right", angle(), state(0, 76, 100, -1, 2), 2, api.OK},
		{"to the reflex corner from the end", angle(), state(4, 1, 2, 1, -2), 0, api.ErrCorner},
		{"the corner where the next side begins", square(), state(0, 1, 2, 1, 2), 0, api.ErrCorner},
		{"the corner where the last side begins", square(), state(0, 1, 2, -1, 2), 0, api.ErrCorner},
		{"along a side that faces the other one", polygon(0, 0, 1, 0, 1, 1, 2, 1, 2, 0, 3, 0, 3, 3, 0, 3), state(6, 1, 2, 0, -1), 2, api.OK},
		{"over a side on the line of another one", polygon(0, 0, 1, 0, 1, 1, 2, 1, 2, 0, 3, 0, 3, 3, 0, 3), state(7, 2, 3, 1, 0), 0, api.ErrCorner},
		{"above it", polygon(0, 0, 1, 0, 1, 1, 2, 1, 2, 0, 3, 0, 3, 3, 0, 3), state(7, 1, 3, 1, 0), 5, api.OK},
		{"below it", polygon(0, 0, 1, 0, 1, 1, 2, 1, 2, 0, 3, 0, 3, 3, 0, 3), state(7, 5, 6, 1, 0), 1, api.OK},
		{"from the other leg", polygon(0, 0, 1, 0, 1, 1, 2, 1, 2, 0, 3, 0, 3, 3, 0, 3), state(5, 1, 6, -1, 0), 3, api.OK},
	} {
		n, e := billiard.Next(c.p, c.s)
		wantCode(t, "Next "+c.what, []int{n.Side}, e, []int{c.side}, c.e)
		want(t, "CheckState "+c.what, billiard.CheckState(c.p, c.s), api.OK)
	}
}

// P2.2: the number of hits, and the hits before a corner.
func TestHits(t *testing.T) {
	p, s := square(), state(0, 1, 2, 1, 1)
	for _, n := range []int{-1, 201, math.MinInt, math.MaxInt} {
		states, e := billiard.Follow(p, s, n)
		wantSame(t, "Follow beyond the bound", sameStates, states, e, nil, api.ErrRange)
		code, e := billiard.Code(p, s, n)
		wantCode(t, "Code beyond the bound", code, e, nil, api.ErrRange)
		_, e = billiard.Code(p, state(7, 1, 2, 1, 1), n)
		want(t, "Code of no state, beyond the bound", e, api.ErrMissing)
		_, e = billiard.Follow(p, state(0, 1, 2, 1, -1), n)
		want(t, "Follow of no state, beyond the bound", e, api.ErrForm)
		_, e = billiard.Follow(p, state(0, 1, 2, 1, 2), n)
		want(t, "Follow to a corner, beyond the bound", e, api.ErrRange)
	}
	// The corner is met with the second hit: none is asked for before it.
	s = state(0, 1, 4, 1, 1)
	s.Dir = api.Vec{X: ratio(3, 1), Y: ratio(2, 1)} // (1/4, 0), (1, 1/2), (1/4, 1)
	code, e := billiard.Code(p, s, 2)
	wantCode(t, "Code of two hits", code, e, []int{1, 2}, api.OK)
	s.Dir = api.Vec{X: ratio(3, 1), Y: ratio(4, 1)} // (1/4, 0), (1, 1)
	code, e = billiard.Code(p, s, 0)
	wantCode(t, "Code of no hits", code, e, nil, api.OK)
	states, e := billiard.Follow(p, s, 0)
	wantSame(t, "Follow of no hits", sameStates, states, e, nil, api.OK)
	code, e = billiard.Code(p, s, 1)
	wantCode(t, "Code of a corner", code, e, nil, api.ErrCorner)
	s = state(0, 1, 2, 1, 4) // (1/2, 0), (3/4, 1), (1, 0)
	code, e = billiard.Code(p, s, 1)
	wantCode(t, "Code before a corner", code, e, []int{2}, api.OK)
	code, e = billiard.Code(p, s, 2)
	wantCode(t, "Code with a corner", code, e, []int{2}, api.ErrCorner)
	states, e = billiard.Follow(p, s, 200)
	wantSame(t, "Follow with a corner", sameStates, states, e, []api.State{state(2, 1, 4, 1, -4)}, api.ErrCorner)
	code, e = billiard.Code(p, state(0, 1, 2, 1, 1), 200)
	wantCode(t, "Code of 200 hits", code, e, slices.Repeat([]int{1, 2, 3, 0}, 50), api.OK)
}

func sameStates(a, b []api.State) bool { return slices.EqualFunc(a, b, sameState) }

// P2.2: trajectories over the fractions, compared with the definition.
func TestFollowRandom(t *testing.T) {
	r := rand.New(rand.NewSource(3))
	corners := 0
	for k := range 300 {
		p := randomPolygon(r, 3+k%10)
		g := points(p)
		s := randomState(r, p)
		if k%3 == 0 {
			s = aimed(r, p, s)
		}
		m := g.movingOf(s)
		var list []api.State
		var e api.Errno
		for range 12 {
			next, ok := g.next(m)
			if !ok {
				e = api.ErrCorner
				corners++
				break
			}
			m = next
			list = append(list, g.stateOf(m))
		}
		q, u := untidyTable(r, p), untidyState(r, s, p.Field.Poly)
		states, f := billiard.Follow(q, u, 12)
		wantSame(t, "Follow in"+text(p), sameStates, states, f, list, e)
		code, f := billiard.Code(q, u, 12)
		wantCode(t, "Code in"+text(p), code, f, g.code(g.movingOf(s), 12), e)
		next, f := billiard.Next(q, u)
		if len(list) > 0 {
			wantSame(t, "Next in"+text(p), sameState, next, f, list[0], api.OK)
		} else {
			wantSame(t, "Next in"+text(p), sameState, next, f, api.State{}, api.ErrCorner)
		}
		v, f := billiard.Place(q, u)
		wantSame(t, "Place in"+text(p), sameVec, v, f, g.movingOf(s).at.vec(), api.OK)
		back, f := billiard.Reverse(q, u)
		m = g.movingOf(s)
		m.dir = mirrored(g.side(m.side), m.dir).times(whole(-1))
		wantSame(t, "Reverse in"+text(p), sameState, back, f, g.stateOf(m), api.OK)
	}
	if corners < 30 {
		t.Errorf("only %d trajectories end in a corner", corners)
	}
}

// aimed returns a state at the same place that moves towards a corner of a copy of the table, though it may be stopped on its way.
func aimed(r *rand.Rand, p api.Table, s api.State) api.State {
	for {
		var code []int
		for range r.Intn(3) {
			code = append(code, r.Intn(len(p.Corners)))
		}
		g := points(p)
		h := g.copies(code)[len(code)]
		q := api.State{Side: s.Side, T: s.T, Dir: h[r.Intn(len(h))].minus(g.movingOf(s).at).vec()}
		if billiard.CheckState(p, q) == api.OK {
			return q
		}
	}
}

// P2.2: a long trajectory in a direction that never comes back.
func TestLong(t *testing.T) {
	p, s := triangle(), state(0, 3, 7, 2, 5)
	states, e := billiard.Follow(p, s, api.MaxHits)
	want(t, "Follow of 200 hits", e, api.OK)
	want(t, "its length", len(states), api.MaxHits)
	g := points(p)
	m := g.movingOf(s)
	for k, q := range states {
		m, _ = g.next(m)
		wantSame(t, "Follow of many hits", sameState, q, api.Errno(k), g.stateOf(m), api.Errno(k))
	}
}

// P2.5: periods.
func TestPeriod(t *testing.T) {
	p, s := square(), state(0, 1, 2, 1, 1)
	for _, c := range []struct {
		what string
		s    api.State
		n, k int
		e    api.Errno
	}{
		{"just the bound", s, 4, 4, api.OK},
		{"more than the bound", s, 3, 0, api.ErrOpen},
		{"far below the bound", s, 200, 4, api.OK},
		{"n 0", s, 0, 0, api.ErrRange},
		{"n -1", s, -1, 0, api.ErrRange},
		{"n 201", s, 201, 0, api.ErrRange},
		{"no state, and n 0", state(0, 1, 1, 1, 1), 0, 0, api.ErrRange},
		{"no side, and n 0", state(5, 1, 1, 1, 1), 0, 0, api.ErrMissing},
		{"up and down", state(0, 1, 3, 0, 7), 200, 2, api.OK},
		{"up and down, with bound 1", state(0, 1, 3, 0, 7), 1, 0, api.ErrOpen},
		{"a corner", state(0, 1, 2, 1, 2), 1, 0, api.ErrCorner},
		{"before the corner", state(0, 1, 2, 1, 4), 1, 0, api.ErrOpen},
		{"at the corner", state(0, 1, 2, 1, 4), 2, 0, api.ErrCorner},
		{"on the same side in another direction", state(0, 1, 3, 1, 2), 200, 6, api.OK},
		{"at the same place in another direction", state(0, 1, 2, 1, 3), 200, 8, api.OK},
	} {
		k, e := billiard.Period(p, c.s, c.n)
		wantCode(t, "Period of "+c.what, []int{k}, e, []int{c.k}, c.e)
	}
	k, e := billiard.Period(triangle(), state(0, 3, 7, 2, 5), 200)
	wantCode(t, "Period of a state that does not come back", []int{k}, e, []int{0}, api.ErrOpen)
}

// P2.5: the state that comes back is the same one by value.
func TestPeriodRandom(t *testing.T) {
	r := rand.New(rand.NewSource(4))
	for range 150 {
		p := polygon(0, 0, 1+r.Intn(4), 0, 1+r.Intn(4), 1+r.Intn(3), 0, 1+r.Intn(3))
		p.Corners[2] = api.Vec{X: p.Corners[1].X, Y: p.Corners[3].Y}
		if r.Intn(2) == 0 {
			p = angle()
		}
		s := state(r.Intn(len(p.Corners)), 1+r.Intn(6), 7, r.Intn(7)-3, r.Intn(7)-3)
		if billiard.CheckState(p, s) != api.OK {
			continue
		}
		wantK, wantE := 0, api.ErrOpen
		g := points(p)
		m := g.movingOf(s)
		for k := range 40 {
			next, ok := g.next(m)
			m = next
			if !ok {
				wantE = api.ErrCorner
				break
			}
			if sameState(g.stateOf(m), s) {
				wantK, wantE = k+1, api.OK
				break
			}
		}
		k, e := billiard.Period(untidyTable(r, p), untidyState(r, s, p.Field.Poly), 40)
		wantCode(t, "Period in"+text(p), []int{k}, e, []int{wantK}, wantE)
	}
}

// P2.9: going back.
func TestReverse(t *testing.T) {
	r := rand.New(rand.NewSource(5))
	_, five := pentagon(t)
	_, four := kite(t)
	for _, p := range []api.Table{square(), triangle(), angle(), cave(), five, four} {
		for range 40 {
			s := state(r.Intn(len(p.Corners)), 1+r.Intn(6), 7, r.Intn(21)-10, r.Intn(21)-10)
			n, e := billiard.Next(p, s)
			if e != api.OK {
				continue
			}
			back, e := billiard.Reverse(p, n)
			want(t, "Reverse", e, api.OK)
			back, e = billiard.Next(p, back)
			start, f := billiard.Reverse(p, s)
			wantSame(t, "Next of Reverse of Next", sameState, back, e, start, f)
			again, e := billiard.Reverse(p, start)
			wantSame(t, "Reverse twice", sameState, again, e, api.State{Side: s.Side, T: s.T, Dir: s.Dir}, api.OK)
		}
	}
}

// P2.2: the length of Dir never changes.
func TestLength(t *testing.T) {
	r, p := pentagon(t)
	square := func(v api.Vec) api.Num { return r.Add(r.Mul(v.X, v.X), r.Mul(v.Y, v.Y)) }
	s := api.State{Side: 0, T: ratio(2, 5), Dir: vec(-3, -1)}
	states, e := billiard.Follow(p, s, 60)
	want(t, "Follow in the pentagon", e, api.OK)
	for _, q := range states {
		want(t, "CheckState of what follows", billiard.CheckState(p, q), api.OK)
		wantSame(t, "the length", sameNum, square(q.Dir), 0, field.Whole(10), 0)
	}
}
