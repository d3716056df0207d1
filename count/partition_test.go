package count_test

import (
	"fmt"
	"math/big"
	"math/rand"
	"testing"

	"flatland/api"
	"flatland/count"
)

// P9.1: partitions are accepted, other lists are refused with the first error.
func TestCheckPartition(t *testing.T) {
	for _, list := range allPartitions() {
		for _, p := range list {
			want(t, fmt.Sprint("CheckPartition of ", p), count.CheckPartition(p), api.OK)
		}
	}
	for what, c := range badPartitions() {
		want(t, "CheckPartition of "+what, count.CheckPartition(c.p), c.e)
	}
	// Each short list of numbers around the limits, by the rules one after another.
	some := []int{-1, 0, 1, 2, 9, 10, 20, 21}
	for _, a := range some {
		for _, b := range some {
			for _, c := range some {
				p := []int{a, b, c}
				want(t, fmt.Sprint("CheckPartition of ", p), count.CheckPartition(p), shortError(p))
			}
		}
	}
}

// shortError returns the error of a list of at most 20 elements.
func shortError(p []int) api.Errno {
	for i := range p {
		if p[i] < 1 || p[i] > 20 {
			return api.ErrRange
		}
		if i > 0 && p[i] > p[i-1] {
			return api.ErrOrder
		}
	}
	if total(p) > 20 {
		return api.ErrLarge
	}
	return api.OK
}

// P9.1: all partitions, in descending lexicographic order.
func TestPartitions(t *testing.T) {
	l, e := count.Partitions(4)
	wantLists(t, "Partitions(4)", l, e, [][]int{{4}, {3, 1}, {2, 2}, {2, 1, 1}, {1, 1, 1, 1}}, api.OK)
	l, e = count.Partitions(0)
	wantLists(t, "Partitions(0)", l, e, [][]int{nil}, api.OK)
	for n, list := range allPartitions() {
		l, e := count.Partitions(n)
		wantLists(t, fmt.Sprintf("Partitions(%d)", n), l, e, list, api.OK)
	}
	l, _ = count.Partitions(20)
	want(t, "the number of partitions of 20", len(l), 627)
	for _, n := range []int{-1, 21, 1000, most, -most - 1} {
		l, e := count.Partitions(n)
		wantLists(t, fmt.Sprintf("Partitions(%d)", n), l, e, nil, api.ErrRange)
	}
}

// P9.1, P9.9: the conjugate has the columns as rows; the conjugate of it is the partition.
func TestConjugate(t *testing.T) {
	p, e := count.Conjugate([]int{4, 2, 1})
	wantList(t, "Conjugate of 4 2 1", p, e, []int{3, 2, 1, 1}, api.OK)
	p, e = count.Conjugate(nil)
	wantList(t, "Conjugate of nothing", p, e, nil, api.OK)
	for _, list := range allPartitions() {
		for _, p := range list {
			q, e := count.Conjugate(p)
			wantList(t, fmt.Sprint("Conjugate of ", p), q, e, columns(p), api.OK)
			again, e := count.Conjugate(q)
			wantList(t, fmt.Sprint("Conjugate of ", q), again, e, p, api.OK)
		}
	}
}

// P9.2: hooks by their cells.
func TestHooks(t *testing.T) {
	l, e := count.Hooks([]int{3, 1})
	wantLists(t, "Hooks of 3 1", l, e, [][]int{{4, 2, 1}, {1}}, api.OK)
	l, e = count.Hooks(nil)
	wantLists(t, "Hooks of nothing", l, e, nil, api.OK)
	for _, list := range allPartitions()[:13] {
		for _, p := range list {
			l, e := count.Hooks(p)
			wantLists(t, fmt.Sprint("Hooks of ", p), l, e, hooksBy(p), api.OK)
		}
	}
	for _, p := range randomPartitions(1, 100) {
		l, e := count.Hooks(p)
		wantLists(t, fmt.Sprint("Hooks of ", p), l, e, hooksBy(p), api.OK)
	}
}

// P9.9: the hooks of the conjugate are those of the partition, by columns.
func TestHooksOfConjugate(t *testing.T) {
	for _, p := range randomPartitions(2, 200) {
		q := must[[]int](t)(count.Conjugate(p))
		a, b := must[[][]int](t)(count.Hooks(p)), must[[][]int](t)(count.Hooks(q))
		for i, row := range a {
			for j, h := range row {
				want(t, fmt.Sprintf("the hook at %d, %d of %v in the conjugate", i, j, p), b[j][i], h)
			}
		}
	}
}

// P9.2: dimensions are the numbers of ways to build the diagram. P9.9: the conjugate has the same one, and their squares add up to n!.
func TestDimension(t *testing.T) {
	d, e := count.Dimension([]int{3, 1})
	wantList(t, "Dimension of 3 1", d, e, []int{3}, api.OK)
	d, e = count.Dimension(nil)
	wantList(t, "Dimension of nothing", d, e, []int{1}, api.OK)
	d, e = count.Dimension([]int{5, 4, 3, 2, 1})
	wantList(t, "Dimension of 5 4 3 2 1", d, e, []int{292864}, api.OK)
	known := map[string]int{}
	for n, list := range allPartitions() {
		sum := new(big.Int)
		for _, p := range list {
			f := big.NewInt(int64(tableaux(p, known)))
			d, e := count.Dimension(p)
			wantBig(t, fmt.Sprint("Dimension of ", p), d, e, f, api.OK)
			c, e := count.Dimension(columns(p))
			wantBig(t, fmt.Sprint("Dimension of the conjugate of ", p), c, e, f, api.OK)
			sum.Add(sum, times(f, f))
		}
		want(t, fmt.Sprintf("the squares of the dimensions of size %d", n), sum.String(), factorial(n).String())
	}
}

// P9.2: rim hooks are all sets of cells that are one.
func TestRimHooks(t *testing.T) {
	h, e := count.RimHooks([]int{3, 1}, 2)
	wantHooks(t, "RimHooks of 3 1 with 2", h, e, []api.Hook{{Left: []int{1, 1}, Height: 0}}, api.OK)
	h, e = count.RimHooks([]int{2, 2}, 2)
	wantHooks(t, "RimHooks of 2 2 with 2", h, e, []api.Hook{{Left: []int{1, 1}, Height: 1}, {Left: []int{2}, Height: 0}}, api.OK)
	h, e = count.RimHooks([]int{3, 1, 1}, 5)
	wantHooks(t, "the whole of 3 1 1", h, e, []api.Hook{{Left: nil, Height: 2}}, api.OK)
	for _, k := range []int{1, 20} {
		h, e = count.RimHooks(nil, k)
		wantHooks(t, "RimHooks of nothing", h, e, nil, api.OK)
	}
	for _, list := range allPartitions()[:10] {
		for _, p := range list {
			for k := 1; k <= total(p)+1; k++ {
				h, e := count.RimHooks(p, k)
				wantHooks(t, fmt.Sprintf("RimHooks of %v with %d", p, k), h, e, rimHooksBy(p, k), api.OK)
			}
		}
	}
	r := rand.New(rand.NewSource(3))
	for _, p := range randomPartitions(3, 60) {
		k := 1 + r.Intn(20)
		h, e := count.RimHooks(p, k)
		wantHooks(t, fmt.Sprintf("RimHooks of %v with %d", p, k), h, e, rimHooksBy(p, k), api.OK)
	}
}

// P9.2: a number of cells out of range, behind the errors of the partition.
func TestRimHooksErrors(t *testing.T) {
	for _, k := range []int{-most - 1, -1, 0, 21, 64, most} {
		for _, p := range [][]int{nil, {3, 1}, {20}} {
			h, e := count.RimHooks(p, k)
			wantHooks(t, fmt.Sprintf("RimHooks of %v with %d", p, k), h, e, nil, api.ErrRange)
		}
		for what, c := range badPartitions() {
			h, e := count.RimHooks(c.p, k)
			wantHooks(t, fmt.Sprintf("RimHooks of %s with %d", what, k), h, e, nil, c.e)
		}
	}
}

// P9.3: permutations of a type, and those that commute with one, counted one by one.
func TestClassSize(t *testing.T) {
	c, e := count.Centralizer([]int{2, 1, 1})
	wantList(t, "Centralizer of 2 1 1", c, e, []int{4}, api.OK)
	c, e = count.ClassSize([]int{2, 1, 1})
	wantList(t, "ClassSize of 2 1 1", c, e, []int{6}, api.OK)
	for n := range 7 {
		sizes := map[string]int{}
		one := map[string][]int{}
		for _, f := range permutationsOf(n) {
			key := fmt.Sprint(typeBy(f))
			sizes[key]++
			one[key] = f
		}
		for _, c := range allPartitions()[n] {
			key := fmt.Sprint(c)
			commute := 0
			for _, g := range permutationsOf(n) {
				if doCommute(one[key], g) {
					commute++
				}
			}
			a, e := count.Centralizer(c)
			wantList(t, "Centralizer of "+key, a, e, []int{commute}, api.OK)
			b, e := count.ClassSize(c)
			wantList(t, "ClassSize of "+key, b, e, []int{sizes[key]}, api.OK)
		}
	}
}

// doCommute reports whether first f and then g is first g and then f.
func doCommute(f, g []int) bool {
	for x := range f {
		if g[f[x]] != f[g[x]] {
			return false
		}
	}
	return true
}

// P9.3: sizes up to 20: the class and the centralizer have the product n!, the classes are all permutations.
func TestGreatClasses(t *testing.T) {
	for n, list := range allPartitions() {
		sum := new(big.Int)
		for _, c := range list {
			z, s := must[[]int](t)(count.Centralizer(c)), must[[]int](t)(count.ClassSize(c))
			wantList(t, fmt.Sprint("Centralizer of ", c), z, api.OK, integer(bigOf(z)), api.OK)
			wantList(t, fmt.Sprint("ClassSize of ", c), s, api.OK, integer(bigOf(s)), api.OK)
			want(t, fmt.Sprint("Centralizer times ClassSize of ", c), times(bigOf(z), bigOf(s)).String(), factorial(n).String())
			sum.Add(sum, bigOf(s))
		}
		want(t, fmt.Sprintf("the classes of size %d", n), sum.String(), factorial(n).String())
	}
	z, e := count.Centralizer(ones(20))
	wantBig(t, "Centralizer of the identity", z, e, factorial(20), api.OK)
	z, e = count.Centralizer([]int{4, 4, 3, 3, 3, 1, 1, 1})
	wantList(t, "Centralizer of 4 4 3 3 3 1 1 1", z, e, []int{4 * 4 * 2 * 27 * 6 * 6}, api.OK)
	s, e := count.ClassSize([]int{20})
	wantBig(t, "ClassSize of 20", s, e, factorial(19), api.OK)
}

// P9.3: the cycle types of all permutations of up to 6 things, and of random ones.
func TestCycleType(t *testing.T) {
	c, e := count.CycleType([]int{1, 0, 3, 4, 2, 5})
	wantList(t, "CycleType of 1 0 3 4 2 5", c, e, []int{3, 2, 1}, api.OK)
	c, e = count.CycleType(nil)
	wantList(t, "CycleType of nothing", c, e, nil, api.OK)
	for n := range 7 {
		for _, f := range permutationsOf(n) {
			c, e := count.CycleType(f)
			wantList(t, fmt.Sprint("CycleType of ", f), c, e, typeBy(f), api.OK)
		}
	}
	r := rand.New(rand.NewSource(4))
	for range 300 {
		f := r.Perm(r.Intn(21))
		c, e := count.CycleType(f)
		wantList(t, fmt.Sprint("CycleType of ", f), c, e, typeBy(f), api.OK)
	}
}

// P9.3: lists that are no permutations, or too long.
func TestCycleTypeErrors(t *testing.T) {
	r := rand.New(rand.NewSource(5))
	for _, f := range [][]int{r.Perm(21), r.Perm(60), r.Perm(61), make([]int, 21), make([]int, 100000), append(r.Perm(20), -1)} {
		c, e := count.CycleType(f)
		wantList(t, fmt.Sprintf("CycleType of %d elements", len(f)), c, e, nil, api.ErrLarge)
	}
	for _, f := range [][]int{{1}, {-1}, {0, 0}, {0, 2}, {1, 1, 2}, {most}, {-most - 1, 0}, {0, 1, 2, 4}, make([]int, 20), append(r.Perm(19), 20)} {
		c, e := count.CycleType(f)
		wantList(t, fmt.Sprint("CycleType of ", f), c, e, nil, api.ErrForm)
	}
}
