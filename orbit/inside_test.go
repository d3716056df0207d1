package orbit

import (
	"strings"
	"testing"

	"flatland/api"
)

// No orbits are known that have a level or ways beyond the limits, so what stands here is made up.

// P7.4: a level of 1000000000000000 is not too large, a greater one is.
func TestLevel(t *testing.T) {
	for _, c := range []struct {
		widths []int
		level  int
		e      api.Errno
	}{
		{[]int{1}, 1, api.OK},
		{[]int{4, 6, 1, 10}, 60, api.OK},
		{[]int{32768, 30517578125}, 1000000000000000, api.OK},
		{[]int{1000000000000000, 2000, 1, 500}, 1000000000000000, api.OK},
		{[]int{32768, 30517578125, 3}, 0, api.ErrLarge},
		{[]int{1000000000000001}, 0, api.ErrLarge},
		{[]int{999999999999999, 2}, 0, api.ErrLarge},
		{[]int{999999999999999, 1999, 1997, 1993, 1987, 1979}, 0, api.ErrLarge},
		{[]int{32, 27, 25, 7, 11, 13, 17, 19, 23, 29, 31}, 144403552893600, api.OK},
		{[]int{32, 27, 25, 7, 11, 13, 17, 19, 23, 29, 31, 37}, 0, api.ErrLarge},
		{[]int{32, 27, 25, 7, 11, 13, 17, 19, 23, 29, 31, 37, 41, 43, 47, 53, 59, 61, 67, 71, 73, 79, 83, 89, 97}, 0, api.ErrLarge},
	} {
		var list []api.Cusp
		for _, w := range c.widths {
			list = append(list, api.Cusp{Width: w})
		}
		if l, e := level(list); l != c.level || e != c.e {
			t.Errorf("level of %v: %d, %d, want %d, %d", c.widths, l, e, c.level, c.e)
		}
	}
}

// madeUp returns an orbit of n members: T goes around, S exchanges two members. The first label is that of a square.
func madeUp(n, a, b int) api.Orbit {
	x := api.Orbit{Labels: []api.Origami{{Right: []int{0}, Up: []int{0}}}}
	for i := range n {
		x.S = append(x.S, i)
		x.T = append(x.T, (i+1)%n)
		x.Labels = append(x.Labels, api.Origami{Right: []int{i + 1}, Up: []int{0}})
	}
	x.Labels = x.Labels[:n]
	x.S[a], x.S[b] = b, a
	return x
}

// P7.5: a way may have more letters than a word.
func TestLongWay(t *testing.T) {
	w := waysFrom(madeUp(1000, 99, 100), 0)
	for _, c := range []struct {
		member int
		way    string
	}{
		{0, ""},
		{99, strings.Repeat("T", 99)},
		{100, "S" + strings.Repeat("T", 99)},
		{101, "TS" + strings.Repeat("T", 99)},
		{999, strings.Repeat("T", 899) + "S" + strings.Repeat("T", 99)},
	} {
		if way := w.to(c.member); way != c.way {
			t.Errorf("the way to %d: %s, want %s", c.member, way, c.way)
		}
	}
}

// P7.5: a generator of 200 letters is not too long, one of more letters is.
func TestLongGenerators(t *testing.T) {
	square := api.Origami{Right: []int{0}, Up: []int{0}}
	list, e := generators(madeUp(101, 99, 100), square)
	longest := ""
	for _, w := range list {
		if len(w) > len(longest) {
			longest = w
		}
	}
	// T takes the member 99 to the member 100, to which the way goes by S.
	if want := strings.Repeat("t", 99) + "sT" + strings.Repeat("T", 99); e != api.OK || longest != want {
		t.Errorf("the longest generator: %s, %d, want %s", longest, e, want)
	}
	// S leaves the member 100 as it is: 201 letters.
	if list, e := generators(madeUp(101, 0, 0), square); len(list) > 0 || e != api.ErrLarge {
		t.Errorf("generators: %d, %d, want %d", len(list), e, api.ErrLarge)
	}
}
