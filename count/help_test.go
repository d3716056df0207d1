package count_test

import (
	"math/big"
	"math/rand"
	"slices"
	"testing"

	"flatland/api"
	"flatland/count"
)

const most = int(^uint(0) >> 1)

// want checks a value that contains no lists.
func want[T comparable](t *testing.T, what string, a, b T) {
	t.Helper()
	if a != b {
		t.Errorf("%s: %v, want %v", what, a, b)
	}
}

// wantSame checks a value with lists and an error.
func wantSame[T any](t *testing.T, what string, same func(a, b T) bool, a T, e api.Errno, b T, f api.Errno) {
	t.Helper()
	if !same(a, b) || e != f {
		t.Errorf("%s: %v, %d, want %v, %d", what, a, e, b, f)
	}
}

// wantList checks a list and an error; nil and empty lists are the same.
func wantList(t *testing.T, what string, a []int, e api.Errno, b []int, f api.Errno) {
	t.Helper()
	wantSame(t, what, slices.Equal, a, e, b, f)
}

// wantLists checks a list of lists and an error.
func wantLists(t *testing.T, what string, a [][]int, e api.Errno, b [][]int, f api.Errno) {
	t.Helper()
	wantSame(t, what, sameLists, a, e, b, f)
}

// wantTable checks a table of integers and an error.
func wantTable(t *testing.T, what string, a [][][]int, e api.Errno, b [][][]int, f api.Errno) {
	t.Helper()
	wantSame(t, what, func(a, b [][][]int) bool { return slices.EqualFunc(a, b, sameLists) }, a, e, b, f)
}

// wantHooks checks rim hooks and an error.
func wantHooks(t *testing.T, what string, a []api.Hook, e api.Errno, b []api.Hook, f api.Errno) {
	t.Helper()
	wantSame(t, what, func(a, b []api.Hook) bool {
		return slices.EqualFunc(a, b, func(x, y api.Hook) bool { return x.Height == y.Height && slices.Equal(x.Left, y.Left) })
	}, a, e, b, f)
}

// wantOrigamis checks a list of origamis and an error.
func wantOrigamis(t *testing.T, what string, a []api.Origami, e api.Errno, b []api.Origami, f api.Errno) {
	t.Helper()
	wantSame(t, what, func(a, b []api.Origami) bool {
		return slices.EqualFunc(a, b, func(x, y api.Origami) bool { return compareOrigamis(x, y) == 0 })
	}, a, e, b, f)
}

// wantBig checks an integer in normal form and an error.
func wantBig(t *testing.T, what string, a []int, e api.Errno, b *big.Int, f api.Errno) {
	t.Helper()
	wantList(t, what, a, e, integer(b), f)
}

// wantRate checks a fraction in lowest terms and an error.
func wantRate(t *testing.T, what string, a api.Rate, e api.Errno, b *big.Rat, f api.Errno) {
	t.Helper()
	want := api.Rate{Num: integer(b.Num()), Den: integer(b.Denom())}
	wantSame(t, what, func(a, b api.Rate) bool { return slices.Equal(a.Num, b.Num) && slices.Equal(a.Den, b.Den) }, a, e, want, f)
}

func sameLists(a, b [][]int) bool { return slices.EqualFunc(a, b, slices.Equal) }

func compareOrigamis(a, b api.Origami) int {
	return slices.Compare(slices.Concat(a.Right, a.Up), slices.Concat(b.Right, b.Up))
}

// integer returns the normal form of an integer of chapter 1.
func integer(b *big.Int) []int {
	base, rest, digit := big.NewInt(100000000), new(big.Int).Set(b), new(big.Int)
	var l []int
	for rest.Sign() != 0 {
		rest.QuoRem(rest, base, digit)
		l = append(l, int(digit.Int64()))
	}
	return l
}

// bigOf returns the value of an integer of chapter 1.
func bigOf(l []int) *big.Int {
	sum := new(big.Int)
	for _, x := range slices.Backward(l) {
		sum.Mul(sum, big.NewInt(100000000))
		sum.Add(sum, big.NewInt(int64(x)))
	}
	return sum
}

// rateOf returns the value of a fraction.
func rateOf(r api.Rate) *big.Rat { return new(big.Rat).SetFrac(bigOf(r.Num), bigOf(r.Den)) }

func times(factors ...*big.Int) *big.Int {
	product := big.NewInt(1)
	for _, x := range factors {
		product.Mul(product, x)
	}
	return product
}

// factorial returns n!.
func factorial(n int) *big.Int { return new(big.Int).MulRange(1, int64(n)) }

// must returns a result without an error.
func must[T any](t *testing.T) func(x T, e api.Errno) T {
	return func(x T, e api.Errno) T {
		t.Helper()
		if e != api.OK {
			t.Fatalf("%v, %d", x, e)
		}
		return x
	}
}

// total returns the sum of a list.
func total(p []int) int {
	n := 0
	for _, k := range p {
		n += k
	}
	return n
}

// ones returns n times 1: the type of a torus of n squares.
func ones(n int) []int { return slices.Repeat([]int{1}, n) }

// randomPartition returns a random partition of n; some have many equal parts, some few parts.
func randomPartition(r *rand.Rand, n int) []int {
	var p []int
	for rest, top := n, 1+r.Intn(max(1, n)); rest > 0; {
		k := 1 + r.Intn(min(rest, top))
		p = append(p, k)
		rest -= k
	}
	slices.Sort(p)
	slices.Reverse(p)
	return p
}

// randomPartitions returns random partitions of any size.
func randomPartitions(seed int64, number int) [][]int {
	r := rand.New(rand.NewSource(seed))
	var l [][]int
	for range number {
		l = append(l, randomPartition(r, r.Intn(api.MaxParts+1)))
	}
	return append(l, nil, []int{20}, ones(20), []int{5, 5, 5, 5}, []int{6, 5, 4, 3, 2})
}

// partitionsOf returns all partitions of n, as the program lists them.
func partitionsOf(t *testing.T, n int) [][]int { return must[[][]int](t)(count.Partitions(n)) }

// badPartitions are lists that are no partitions, or too large ones, with their errors.
func badPartitions() map[string]struct {
	p []int
	e api.Errno
} {
	type bad = struct {
		p []int
		e api.Errno
	}
	return map[string]bad{
		"21 parts":                         {ones(21), api.ErrLarge},
		"21 parts out of range":            {make([]int, 21), api.ErrLarge},
		"21 parts that ascend":             {append(ones(20), 2), api.ErrLarge},
		"many parts":                       {make([]int, 100000), api.ErrLarge},
		"the part 0":                       {[]int{0}, api.ErrRange},
		"a 0 at the end":                   {[]int{3, 1, 0}, api.ErrRange},
		"a negative part":                  {[]int{2, -1}, api.ErrRange},
		"the part 21":                      {[]int{21}, api.ErrRange},
		"a part out of range that ascends": {[]int{1, 21}, api.ErrRange},
		"the greatest int":                 {[]int{most}, api.ErrRange},
		"the least int":                    {[]int{-most - 1, 1}, api.ErrRange},
		"parts that ascend":                {[]int{1, 2}, api.ErrOrder},
		"a last part that ascends":         {[]int{4, 2, 1, 2}, api.ErrOrder},
		"first a part that ascends":        {[]int{1, 2, 0}, api.ErrOrder},
		"first a part out of range":        {[]int{3, 0, 5}, api.ErrRange},
		"a large one that ascends":         {[]int{10, 11}, api.ErrOrder},
		"a large one with a 0":             {[]int{20, 20, 0}, api.ErrRange},
		"the size 21":                      {[]int{20, 1}, api.ErrLarge},
		"the size 21 in small parts":       {slices.Repeat([]int{3}, 7), api.ErrLarge},
		"the size 400":                     {slices.Repeat([]int{20}, 20), api.ErrLarge},
	}
}
