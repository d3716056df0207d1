package orbit_test

import (
	"fmt"
	"math/rand"
	"slices"
	"testing"

	"flatland/api"
	"flatland/orbit"
	"flatland/origami"
)

// ellOrbit is the orbit of the chapter's example.
func ellOrbit() api.Orbit {
	return api.Orbit{
		Labels: []api.Origami{squares([]int{0, 2, 1}, []int{1, 0, 2}), squares([]int{0, 2, 1}, []int{1, 2, 0}), squares([]int{1, 2, 0}, []int{0, 2, 1})},
		S:      []int{0, 2, 1},
		T:      []int{1, 0, 2},
	}
}

// P7.3: the orbits of the examples.
func TestExampleOrbit(t *testing.T) {
	x, e := orbit.Enumerate(ell())
	wantSame(t, "Enumerate of the L", sameOrbit, x, e, ellOrbit(), api.OK)
	want(t, "CheckOrbit", orbit.CheckOrbit(ellOrbit()), api.OK)
	n, e := orbit.Index(ell())
	wantBoth(t, "Index of the L", n, e, 3, api.OK)
	x, e = orbit.Enumerate(torus())
	one := api.Orbit{Labels: []api.Origami{torus()}, S: []int{0}, T: []int{0}}
	wantSame(t, "Enumerate of a square", sameOrbit, x, e, one, api.OK)
	want(t, "CheckOrbit of a square", orbit.CheckOrbit(one), api.OK)
	n, e = orbit.Index(torus())
	wantBoth(t, "Index of a square", n, e, 1, api.OK)
}

// P7.3, P7.7, P2: orbits against all labels to which letters lead; all members have the same stratum, area and orbit.
func TestEnumerate(t *testing.T) {
	r := rand.New(rand.NewSource(14))
	for _, o := range slices.Concat(small(4), connectedOnes(15, 30, 7), oneSided()) {
		right := orbitBy(o)
		if len(right.Labels) > 100 && r.Intn(4) > 0 {
			continue
		}
		x, e := orbit.Enumerate(o)
		wantSame(t, fmt.Sprint("Enumerate of ", o), sameOrbit, x, e, right, api.OK)
		want(t, fmt.Sprint("CheckOrbit of the orbit of ", o), orbit.CheckOrbit(right), api.OK)
		n, e := orbit.Index(renumbered(o, r.Perm(len(o.Right))))
		wantBoth(t, "Index", n, e, len(right.Labels), api.OK)
		member := right.Labels[r.Intn(n)]
		y, e := orbit.Enumerate(member)
		wantSame(t, "Enumerate of a member", sameOrbit, y, e, right, api.OK)
		wantAlike(t, x)
	}
}

// wantAlike checks that all members have the same stratum, and lattices of the same index.
func wantAlike(t *testing.T, x api.Orbit) {
	t.Helper()
	first, _ := origami.Stratum(x.Labels[0])
	area, _ := origami.Periods(x.Labels[0])
	for _, o := range x.Labels {
		s, e := origami.Stratum(o)
		wantList(t, "the stratum of a member", s, e, first, api.OK)
		l, _ := origami.Periods(o)
		want(t, "the index of its lattice", l.A*l.C, area.A*area.C)
		want(t, "its squares", len(o.Right), len(x.Labels[0].Right))
	}
}

// psi returns the index of the matrices whose upper right entry n divides: n times 1 + 1/p for all primes p that divide n.
func psi(n int) int {
	index := n
	for p := 2; p <= n; p++ {
		if n%p == 0 && isPrime(p) {
			index += index / p
		}
	}
	return index
}

func isPrime(p int) bool {
	for d := 2; d < p; d++ {
		if p%d == 0 {
			return false
		}
	}
	return p > 1
}

// P7.3: the orbits of tori, which are known: they are the lattices whose group has the same form.
func TestTorusOrbits(t *testing.T) {
	for _, n := range append(identity(37)[1:], 59, 60) {
		k, e := orbit.Index(grid(n, 0, 1))
		wantBoth(t, fmt.Sprint("Index of a row of ", n), k, e, psi(n), api.OK)
	}
	for _, c := range [][3]int{{2, 2, 1}, {4, 2, 2}, {3, 9, 3}, {6, 6, 1}, {5, 10, 2}, {6, 10, 15}, {7, 7, 1}} {
		// A torus of a times b squares: its group is that of a row of c squares, times squares.
		k, e := orbit.Index(grid(c[0], 0, c[1]))
		wantBoth(t, fmt.Sprint("Index of ", c), k, e, psi(c[2]), api.OK)
	}
}

// P7.3: the orbits of genus 2 with one vertex, which are known: with n squares that are no larger squares there is one if n is even or 3, and otherwise there are two.
func TestOrbitsOfGenusTwo(t *testing.T) {
	for n := 3; n <= 13; n++ {
		all := 1 // n^2 times 1 - 1/p^2 for all primes p that divide n
		all *= n * n
		for p := 2; p <= n; p++ {
			if n%p == 0 && isPrime(p) {
				all = all / p / p * (p*p - 1)
			}
		}
		sizes := []int{3 * (n - 2) * all / 8}
		switch {
		case n == 3:
			sizes = []int{3}
		case n%2 == 1:
			sizes = []int{3 * (n - 1) * all / 16, 3 * (n - 3) * all / 16}
		}
		for w := 2; w < n; w++ {
			k, e := orbit.Index(long(w, n+1-w))
			want(t, fmt.Sprint("Index of an L of ", n, " squares: ", k), e == api.OK && slices.Contains(sizes, k), true)
		}
	}
	k, e := orbit.Index(long(3, 21))
	wantBoth(t, "Index of an L of 23 squares", k, e, 1980, api.OK)
}

// P7.3: orbits of more than 2000 members.
func TestLargeOrbits(t *testing.T) {
	r := rand.New(rand.NewSource(16))
	for _, o := range []api.Origami{long(2, 21), long(12, 13), randomConnected(r, 60)} {
		x, e := orbit.Enumerate(o)
		wantSame(t, "Enumerate", sameOrbit, x, e, api.Orbit{}, api.ErrLarge)
		n, e := orbit.Index(o)
		wantBoth(t, "Index", n, e, 0, api.ErrLarge)
		g, e := orbit.Generators(o)
		wantList(t, "Generators", g, e, nil, api.ErrLarge)
		w, e := orbit.Connect(o, o)
		wantBoth(t, "Connect", w, e, "", api.ErrLarge)
		w, e = orbit.Connect(o, torus())
		wantBoth(t, "Connect to a square", w, e, "", api.ErrLarge)
		w, e = orbit.Connect(torus(), o)
		wantBoth(t, "Connect of a square", w, e, "", api.ErrNone)
		// What needs no orbit has answers.
		has, e := orbit.Contains(o, one())
		wantBoth(t, "Contains", has, e, true, api.OK)
		_, e = orbit.HasMinus(o)
		want(t, "HasMinus", e, api.OK)
	}
}

// P7.3: -1, against labels.
func TestHasMinus(t *testing.T) {
	has, e := orbit.HasMinus(ell())
	wantBoth(t, "HasMinus of the L", has, e, true, api.OK)
	r := rand.New(rand.NewSource(17))
	found := map[bool]int{}
	list := append(small(4), connectedOnes(18, 100, 8)...)
	for range 100 {
		list = append(list, squares(r.Perm(7), r.Perm(7)))
	}
	for _, o := range list {
		if !isConnected(o) {
			continue
		}
		right := sameOrigami(label(o), label(turnedBy180(o)))
		has, e := orbit.HasMinus(o)
		wantBoth(t, fmt.Sprint("HasMinus of ", o), has, e, right, api.OK)
		has, e = orbit.Contains(o, unit(-1, 0, 0, -1))
		wantBoth(t, fmt.Sprint("Contains of -1 and ", o), has, e, right, api.OK)
		found[right]++
	}
	want(t, "some have -1, some do not", found[true] > 50 && found[false] > 50, true)
}

// changed returns an orbit in which something is different.
func changed(x api.Orbit, change func(x *api.Orbit)) api.Orbit {
	x = copied(x)
	change(&x)
	return x
}

// P7.3: the errors of orbits.
func TestCheckOrbit(t *testing.T) {
	l := ellOrbit()
	for what, c := range map[string]struct {
		change func(x *api.Orbit)
		e      api.Errno
	}{
		"nothing":         {func(x *api.Orbit) {}, api.OK},
		"no orbit":        {func(x *api.Orbit) { *x = api.Orbit{} }, api.ErrShape},
		"empty lists":     {func(x *api.Orbit) { *x = api.Orbit{Labels: []api.Origami{}, S: []int{}, T: []int{}} }, api.ErrShape},
		"no labels":       {func(x *api.Orbit) { x.Labels = nil }, api.ErrShape},
		"no S":            {func(x *api.Orbit) { x.S = nil }, api.ErrShape},
		"no T":            {func(x *api.Orbit) { x.T = nil }, api.ErrShape},
		"S too short":     {func(x *api.Orbit) { x.S = x.S[:2] }, api.ErrShape},
		"T too long":      {func(x *api.Orbit) { x.T = append(x.T, 0) }, api.ErrShape},
		"too few labels":  {func(x *api.Orbit) { x.Labels = x.Labels[:2] }, api.ErrShape},
		"no squares":      {func(x *api.Orbit) { x.Labels[1] = api.Origami{} }, api.ErrShape},
		"61 squares":      {func(x *api.Orbit) { x.Labels[0] = squares(identity(61), identity(61)) }, api.ErrLarge},
		"a wrong square":  {func(x *api.Orbit) { x.Labels[2].Up[2] = 3 }, api.ErrRange},
		"a square twice":  {func(x *api.Orbit) { x.Labels[2].Right[2] = 1 }, api.ErrForm},
		"other squares":   {func(x *api.Orbit) { x.Labels[1] = torus() }, api.ErrShape},
		"a first one":     {func(x *api.Orbit) { x.Labels[0] = torus() }, api.ErrShape}, // the second one has more squares than it
		"parts":           {func(x *api.Orbit) { x.Labels[1] = squares(identity(3), identity(3)) }, api.ErrSplit},
		"other parts":     {func(x *api.Orbit) { x.Labels[1] = squares(identity(4), identity(4)) }, api.ErrShape},
		"no label":        {func(x *api.Orbit) { x.Labels[0] = ell() }, api.ErrForm},
		"a label twice":   {func(x *api.Orbit) { x.Labels[1] = x.Labels[0] }, api.ErrOrder},
		"other order":     {func(x *api.Orbit) { x.Labels[0], x.Labels[1] = x.Labels[1], x.Labels[0] }, api.ErrOrder},
		"the last first":  {func(x *api.Orbit) { x.Labels[0], x.Labels[2] = x.Labels[2], x.Labels[0] }, api.ErrOrder},
		"S negative":      {func(x *api.Orbit) { x.S[0] = -1 }, api.ErrRange},
		"S too large":     {func(x *api.Orbit) { x.S[2] = 3 }, api.ErrRange},
		"T too large":     {func(x *api.Orbit) { x.T[2] = most }, api.ErrRange},
		"T least":         {func(x *api.Orbit) { x.T[0] = -most - 1 }, api.ErrRange},
		"S wrong":         {func(x *api.Orbit) { x.S[0] = 1 }, api.ErrProof},
		"S the identity":  {func(x *api.Orbit) { x.S = identity(3) }, api.ErrProof},
		"T wrong":         {func(x *api.Orbit) { x.T[0], x.T[1] = 0, 1 }, api.ErrProof},
		"S, T exchanged":  {func(x *api.Orbit) { x.S, x.T = x.T, x.S }, api.ErrProof},
		"not a member":    {func(x *api.Orbit) { x.Labels[2] = squares([]int{1, 2, 0}, []int{1, 2, 0}) }, api.ErrProof},
		"a part":          {func(x *api.Orbit) { *x = api.Orbit{Labels: x.Labels[:1], S: []int{0}, T: []int{0}} }, api.ErrProof},
		"S wrong, T out":  {func(x *api.Orbit) { x.S[0] = 1; x.T[2] = 3 }, api.ErrRange},
		"order, S out":    {func(x *api.Orbit) { x.Labels[1] = x.Labels[0]; x.S[0] = -1 }, api.ErrOrder},
		"form, then all":  {func(x *api.Orbit) { x.Labels[0] = ell(); x.Labels[1] = torus(); x.S[0] = -1 }, api.ErrForm},
		"shape, then all": {func(x *api.Orbit) { x.Labels[0] = api.Origami{}; x.S = append(x.S, 9) }, api.ErrShape},
	} {
		want(t, "CheckOrbit, changed: "+what, orbit.CheckOrbit(changed(l, c.change)), c.e)
	}
}

// P7.3: lists with as many members as there may be, and with one more.
func TestCheckLongOrbit(t *testing.T) {
	repeated := func(n int, o api.Origami) api.Orbit {
		return api.Orbit{Labels: slices.Repeat([]api.Origami{o}, n), S: slices.Repeat([]int{-1}, n), T: slices.Repeat([]int{-1}, n)}
	}
	bad := squares([]int{-1}, []int{0})
	want(t, "2000 bad ones", orbit.CheckOrbit(repeated(2000, bad)), api.ErrRange)
	want(t, "2001 bad ones", orbit.CheckOrbit(repeated(2001, bad)), api.ErrLarge)
	want(t, "2000 times a square", orbit.CheckOrbit(repeated(2000, torus())), api.ErrOrder)
	want(t, "2001 times a square", orbit.CheckOrbit(repeated(2001, torus())), api.ErrLarge)
	x := repeated(2001, bad)
	x.T = x.T[1:]
	want(t, "2001 bad ones and a short list", orbit.CheckOrbit(x), api.ErrShape)
	long := orbitOf(t, long(3, 21))
	want(t, "1980 members", orbit.CheckOrbit(long), api.OK)
	long.T[1979], long.T[1978] = long.T[1978], long.T[1979]
	want(t, "1980 members, two of which are exchanged", orbit.CheckOrbit(long), api.ErrProof)
}

// P7.3: two orbits together are none, and an orbit is one however it was changed and renumbered.
func TestTwoOrbits(t *testing.T) {
	list := []api.Orbit{orbitOf(t, long(2, 4)), orbitOf(t, long(3, 3)), orbitOf(t, grid(5, 0, 1))}
	for i, x := range list {
		for j, y := range list {
			both := copied(x)
			both.Labels = append(both.Labels, y.Labels...)
			slices.SortFunc(both.Labels, lessLabel)
			both.S, both.T = nil, nil
			place := func(o api.Origami) int {
				return slices.IndexFunc(both.Labels, func(p api.Origami) bool { return sameOrigami(p, label(o)) })
			}
			for _, o := range both.Labels {
				both.S = append(both.S, place(actLetter(o, 'S')))
				both.T = append(both.T, place(actLetter(o, 'T')))
			}
			e := api.ErrProof
			if i == j {
				e = api.ErrOrder
			}
			want(t, fmt.Sprint("CheckOrbit of ", i, " and ", j), orbit.CheckOrbit(both), e)
		}
	}
}

// P7.3: every single change of an orbit's lists is found.
func TestEveryChange(t *testing.T) {
	x := orbitOf(t, long(2, 3))
	for i := range x.S {
		for j := -1; j <= len(x.S); j++ {
			e := api.ErrProof
			if j < 0 || j == len(x.S) {
				e = api.ErrRange
			}
			if j != x.S[i] {
				want(t, "CheckOrbit with another S", orbit.CheckOrbit(changed(x, func(x *api.Orbit) { x.S[i] = j })), e)
			}
			if j != x.T[i] {
				want(t, "CheckOrbit with another T", orbit.CheckOrbit(changed(x, func(x *api.Orbit) { x.T[i] = j })), e)
			}
		}
	}
}
