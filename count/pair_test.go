package count_test

import (
	"fmt"
	"math/big"
	"slices"
	"testing"

	"flatland/api"
	"flatland/count"
	"flatland/origami"
)

// P9.5, P9.10: both counts are those of pairs that are looked at one by one.
func TestForce(t *testing.T) {
	n, e := count.Pairs([]int{1, 1})
	wantList(t, "Pairs of 1 1", n, e, []int{4}, api.OK)
	n, e = count.Pairs([]int{3})
	wantList(t, "Pairs of 3", n, e, []int{18}, api.OK)
	for _, f := range []func(c []int) ([]int, api.Errno){count.Force, count.Pairs} {
		n, e := f(nil)
		wantList(t, "the pairs of nothing", n, e, []int{1}, api.OK)
	}
	for size, byType := range tallies() {
		for _, c := range allPartitions()[size] {
			all := big.NewInt(int64(byType[fmt.Sprint(c)].all))
			n, e := count.Force(c)
			wantBig(t, fmt.Sprint("Force of ", c), n, e, all, api.OK)
			n, e = count.Pairs(c)
			wantBig(t, fmt.Sprint("Pairs of ", c), n, e, all, api.OK)
		}
	}
}

// P9.5: more squares than Force goes through, behind the errors of the partition.
func TestForceErrors(t *testing.T) {
	for _, list := range allPartitions()[6:9] {
		for _, c := range list {
			n, e := count.Force(c)
			wantList(t, fmt.Sprint("Force of ", c), n, e, nil, api.ErrLarge)
		}
	}
	for _, c := range [][]int{{20}, ones(20)} {
		n, e := count.Force(c)
		wantList(t, fmt.Sprint("Force of ", c), n, e, nil, api.ErrLarge)
	}
	n, e := count.Force([]int{6, 0})
	wantList(t, "Force of 6 0", n, e, nil, api.ErrRange)
}

// P9.10: the pairs of all types are all pairs; connected ones are those that the number of all pairs leaves, when the component of the first square is not all squares.
func TestAllPairs(t *testing.T) {
	connected := []*big.Int{new(big.Int)} // of each size
	for n := range 14 {
		all, joined := new(big.Int), new(big.Int)
		for _, c := range partitionsOf(t, n) {
			all.Add(all, bigOf(must[[]int](t)(count.Pairs(c))))
			joined.Add(joined, bigOf(must[[]int](t)(count.Connected(c))))
		}
		squared := times(factorial(n), factorial(n))
		want(t, fmt.Sprintf("all pairs of size %d", n), all.String(), squared.String())
		if n == 0 {
			continue
		}
		for m := 1; m < n; m++ {
			choices := new(big.Int).Binomial(int64(n-1), int64(m-1))
			squared.Sub(squared, times(choices, connected[m], factorial(n-m), factorial(n-m)))
		}
		connected = append(connected, squared)
		want(t, fmt.Sprintf("connected pairs of size %d", n), joined.String(), squared.String())
	}
	want(t, "connected pairs of size 7", connected[7].String(), "20946960")
}

// P9.5: pairs that commute are as many as there are classes, times n!; pairs of one cycle of n are known; a commutator is never odd.
func TestKnownPairs(t *testing.T) {
	for n := 1; n <= 20; n++ {
		all, e := count.Pairs(ones(n))
		wantBig(t, fmt.Sprintf("pairs of size %d that commute", n), all, e, times(big.NewInt(int64(len(allPartitions()[n]))), factorial(n)), api.OK)
		one := new(big.Int)
		if n%2 == 1 {
			one.Div(times(big.NewInt(2), factorial(n), factorial(n)), big.NewInt(int64(n+1)))
		}
		for what, f := range map[string]func(c []int) ([]int, api.Errno){"Pairs": count.Pairs, "Connected": count.Connected} {
			all, e = f([]int{n})
			wantBig(t, fmt.Sprintf("%s of %d", what, n), all, e, one, api.OK)
		}
	}
	for _, c := range randomPartitions(9, 100) {
		all, e := count.Pairs(c)
		want(t, fmt.Sprint("the error of Pairs of ", c), e, api.OK)
		if signOf(c) < 0 {
			wantList(t, fmt.Sprint("Pairs of ", c), all, e, nil, api.OK)
		} else {
			// Each even permutation is a commutator (Ore).
			want(t, fmt.Sprintf("Pairs of %v: there are some", c), bigOf(all).Sign() > 0, true)
		}
	}
}

// P9.6: connected pairs that are looked at one by one.
func TestConnected(t *testing.T) {
	n, e := count.Connected([]int{3})
	wantList(t, "Connected of 3", n, e, []int{18}, api.OK)
	n, e = count.Connected(nil)
	wantList(t, "Connected of nothing", n, e, nil, api.OK)
	w, e := count.Weight([]int{3})
	wantRate(t, "Weight of 3", w, e, big.NewRat(3, 1), api.OK)
	w, e = count.Weight([]int{1, 1})
	wantRate(t, "Weight of 1 1", w, e, big.NewRat(3, 2), api.OK)
	w, e = count.Weight(nil)
	wantRate(t, "Weight of nothing", w, e, new(big.Rat), api.OK)
	w, e = count.Weight([]int{2, 1})
	wantRate(t, "Weight of 2 1", w, e, new(big.Rat), api.OK)
	for size, byType := range tallies() {
		for _, c := range allPartitions()[size] {
			joined := big.NewInt(int64(len(byType[fmt.Sprint(c)].connected)))
			n, e := count.Connected(c)
			wantBig(t, fmt.Sprint("Connected of ", c), n, e, joined, api.OK)
			w, e := count.Weight(c)
			wantRate(t, fmt.Sprint("Weight of ", c), w, e, new(big.Rat).SetFrac(joined, factorial(size)), api.OK)
		}
	}
}

// P9.6: the promise by itself, for types of up to 20 squares: each way to choose some of the parts, once.
func TestConnectedSum(t *testing.T) {
	list := append(randomPartitions(10, 25), []int{4, 3, 3, 2, 2, 1, 1, 1, 1, 1, 1})
	for _, c := range list {
		n := total(c)
		sum := bigOf(must[[]int](t)(count.Pairs(c)))
		chosen := map[string]bool{}
		for chosenParts := range 1 << len(c) {
			var d, rest []int
			for i, k := range c {
				if chosenParts>>i&1 == 1 {
					d = append(d, k)
				} else {
					rest = append(rest, k)
				}
			}
			key := fmt.Sprint(d)
			if m := total(d); m > 0 && m < n && !chosen[key] {
				chosen[key] = true
				choices := new(big.Int).Binomial(int64(n-1), int64(m-1))
				joined, others := must[[]int](t)(count.Connected(d)), must[[]int](t)(count.Pairs(rest))
				sum.Sub(sum, times(choices, bigOf(joined), bigOf(others)))
			}
		}
		if n == 0 {
			sum.SetInt64(0)
		}
		joined, e := count.Connected(c)
		wantBig(t, fmt.Sprint("Connected of ", c), joined, e, sum, api.OK)
		w, e := count.Weight(c)
		wantRate(t, fmt.Sprint("Weight of ", c), w, e, new(big.Rat).SetFrac(sum, factorial(n)), api.OK)
	}
}

// P9.6: the labels of all connected pairs, each one once.
func TestClasses(t *testing.T) {
	l, e := count.Classes([]int{3})
	wantOrigamis(t, "Classes of 3", l, e, []api.Origami{{Right: []int{0, 2, 1}, Up: []int{1, 0, 2}}, {Right: []int{0, 2, 1}, Up: []int{1, 2, 0}}, {Right: []int{1, 2, 0}, Up: []int{0, 2, 1}}}, api.OK)
	l, e = count.Classes(nil)
	wantOrigamis(t, "Classes of nothing", l, e, nil, api.OK)
	l, e = count.Classes([]int{2})
	wantOrigamis(t, "Classes of 2", l, e, nil, api.OK)
	for size, byType := range tallies() {
		for _, c := range allPartitions()[size] {
			var labels []api.Origami
			for _, o := range byType[fmt.Sprint(c)].connected {
				label, _, _ := origami.Label(o)
				labels = append(labels, label)
			}
			slices.SortFunc(labels, compareOrigamis)
			labels = slices.CompactFunc(labels, func(a, b api.Origami) bool { return compareOrigamis(a, b) == 0 })
			l, e := count.Classes(c)
			wantOrigamis(t, fmt.Sprint("Classes of ", c), l, e, labels, api.OK)
		}
	}
}

// P9.10: the labels of up to 6 squares: each is one, of the type, and those before it are less; the sum of 1/automorphisms is the weight, so none is missing.
func TestWeightOfClasses(t *testing.T) {
	known := []int{0, 1, 3, 7, 26, 97, 624} // connected origamis
	for n := range 7 {
		all := 0
		for _, c := range partitionsOf(t, n) {
			labels := must[[]api.Origami](t)(count.Classes(c))
			all += len(labels)
			sum := new(big.Rat)
			for i, o := range labels {
				label, _, e := origami.Label(o)
				want(t, fmt.Sprintf("%v is connected", o), e, api.OK)
				want(t, fmt.Sprintf("%v is its own label", o), compareOrigamis(label, o), 0)
				want(t, fmt.Sprintf("%v has the type", o), slices.Equal(typeBy(commutatorBy(o.Right, o.Up)), c), true)
				want(t, fmt.Sprintf("%v is behind the one before", o), i == 0 || compareOrigamis(labels[i-1], o) < 0, true)
				turns, _ := origami.Automorphisms(o)
				sum.Add(sum, big.NewRat(1, int64(len(turns))))
			}
			w, e := count.Weight(c)
			wantRate(t, fmt.Sprint("Weight of ", c), w, e, sum, api.OK)
		}
		want(t, fmt.Sprintf("connected origamis of %d squares", n), all, known[n])
	}
}

// P9.6: more squares than are listed, behind the errors of the partition.
func TestClassesErrors(t *testing.T) {
	for _, c := range append(slices.Clone(allPartitions()[7]), []int{20}, ones(20)) {
		l, e := count.Classes(c)
		wantOrigamis(t, fmt.Sprint("Classes of ", c), l, e, nil, api.ErrLarge)
	}
	l, e := count.Classes([]int{3, 4})
	wantOrigamis(t, "Classes of 3 4", l, e, nil, api.ErrOrder)
}
