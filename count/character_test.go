package count_test

import (
	"fmt"
	"math/big"
	"math/rand"
	"testing"

	"flatland/api"
	"flatland/count"
)

// character returns chi(p, c), which has to be an int.
func character(t *testing.T, p, c []int) int {
	t.Helper()
	return int(bigOf(must[[]int](t)(count.Character(p, c))).Int64())
}

// P9.4: all characters of up to 7 things, as alternating sums of characters of permutations.
func TestCharacter(t *testing.T) {
	x, e := count.Character([]int{2, 1}, []int{3})
	wantList(t, "Character(2 1, 3)", x, e, []int{-1}, api.OK)
	x, e = count.Character([]int{2, 1}, []int{2, 1})
	wantList(t, "Character(2 1, 2 1)", x, e, nil, api.OK)
	x, e = count.Character(nil, nil)
	wantList(t, "Character of nothing", x, e, []int{1}, api.OK)
	for _, list := range allPartitions()[:8] {
		for _, p := range list {
			for _, c := range list {
				x, e := count.Character(p, c)
				wantBig(t, fmt.Sprintf("Character(%v, %v)", p, c), x, e, big.NewInt(int64(characterBy(p, c))), api.OK)
			}
		}
	}
}

// P9.4: characters of up to 20 things, of partitions with few rows or few columns; one at the identity is the dimension.
func TestGreatCharacter(t *testing.T) {
	r := rand.New(rand.NewSource(6))
	tried := 0
	for range 400 {
		n := 8 + r.Intn(13)
		p, c := randomPartition(r, n), randomPartition(r, n)
		f, e := count.Character(p, ones(n))
		d, _ := count.Dimension(p)
		wantList(t, fmt.Sprintf("Character of %v at the identity", p), f, e, d, api.OK)
		value := 0
		switch {
		case len(p) <= 5:
			value = characterBy(p, c)
		case p[0] <= 5:
			value = signOf(c) * characterBy(columns(p), c)
		default:
			continue
		}
		tried++
		x, e := count.Character(p, c)
		wantBig(t, fmt.Sprintf("Character(%v, %v)", p, c), x, e, big.NewInt(int64(value)), api.OK)
	}
	want(t, "some have few rows or columns", tried > 100, true)
}

// P9.4: the characters of the simplest representations of 20 things: the trivial one, the sign, and the permutations.
func TestSimpleCharacters(t *testing.T) {
	for _, c := range partitionsOf(t, 20) {
		fixed := 0
		for _, k := range c {
			if k == 1 {
				fixed++
			}
		}
		want(t, fmt.Sprint("the trivial character at ", c), character(t, []int{20}, c), 1)
		want(t, fmt.Sprint("the sign of ", c), character(t, ones(20), c), signOf(c))
		want(t, fmt.Sprint("the fixed things of ", c), character(t, []int{19, 1}, c)+1, fixed)
	}
}

// P9.9: the character of the conjugate is that of the partition times the sign.
func TestCharacterOfConjugate(t *testing.T) {
	r := rand.New(rand.NewSource(7))
	for range 200 {
		n := r.Intn(21)
		p, c := randomPartition(r, n), randomPartition(r, n)
		want(t, fmt.Sprintf("Character of the conjugate of %v at %v", p, c), character(t, columns(p), c), signOf(c)*character(t, p, c))
	}
}

// P9.4: sizes that differ, behind the errors of both partitions.
func TestCharacterErrors(t *testing.T) {
	for _, q := range [][2][]int{{nil, {1}}, {{1}, nil}, {{2, 1}, {2, 1, 1}}, {{20}, {19}}, {ones(19), ones(20)}} {
		x, e := count.Character(q[0], q[1])
		wantList(t, fmt.Sprintf("Character(%v, %v)", q[0], q[1]), x, e, nil, api.ErrShape)
	}
	for what, a := range badPartitions() {
		for _, p := range [][]int{nil, {3, 1}, {20}} {
			x, e := count.Character(a.p, p)
			wantList(t, fmt.Sprintf("Character(%s, %v)", what, p), x, e, nil, a.e)
			x, e = count.Character(p, a.p)
			wantList(t, fmt.Sprintf("Character(%v, %s)", p, what), x, e, nil, a.e)
		}
		for other, b := range badPartitions() {
			x, e := count.Character(a.p, b.p)
			wantList(t, fmt.Sprintf("Character(%s, %s)", what, other), x, e, nil, a.e)
		}
	}
}

// P9.4: a row for each partition, a column for each type.
func TestTable(t *testing.T) {
	x, e := count.Table(3)
	wantTable(t, "Table(3)", x, e, [][][]int{{{1}, {1}, {1}}, {{-1}, nil, {2}}, {{1}, {-1}, {1}}}, api.OK)
	x, e = count.Table(0)
	wantTable(t, "Table(0)", x, e, [][][]int{{{1}}}, api.OK)
	x, e = count.Table(1)
	wantTable(t, "Table(1)", x, e, [][][]int{{{1}}}, api.OK)
	for n, list := range allPartitions()[:11] {
		var rows [][][]int
		for _, p := range list {
			var row [][]int
			for _, c := range list {
				row = append(row, must[[]int](t)(count.Character(p, c)))
			}
			rows = append(rows, row)
		}
		x, e := count.Table(n)
		wantTable(t, fmt.Sprintf("Table(%d)", n), x, e, rows, api.OK)
	}
	for _, n := range []int{-1, 11, 20, 21, most, -most - 1} {
		x, e := count.Table(n)
		wantTable(t, fmt.Sprintf("Table(%d)", n), x, e, nil, api.ErrRange)
	}
}

// P9.9: two rows are orthogonal, and so are two columns: the sum over all rows is the centralizer.
func TestOrthogonal(t *testing.T) {
	for n := range 11 {
		types := partitionsOf(t, n)
		x := must[[][][]int](t)(count.Table(n))
		for i := range types {
			for j := range types {
				rows, columns := new(big.Int), new(big.Int)
				for k, c := range types {
					size := must[[]int](t)(count.ClassSize(c))
					rows.Add(rows, times(bigOf(size), bigOf(x[i][k]), bigOf(x[j][k])))
					columns.Add(columns, times(bigOf(x[k][i]), bigOf(x[k][j])))
				}
				allRows, allColumns := new(big.Int), new(big.Int)
				if i == j {
					allRows, allColumns = factorial(n), bigOf(must[[]int](t)(count.Centralizer(types[i])))
				}
				want(t, fmt.Sprintf("the rows of %v and %v", types[i], types[j]), rows.String(), allRows.String())
				want(t, fmt.Sprintf("the columns of %v and %v", types[i], types[j]), columns.String(), allColumns.String())
			}
		}
	}
}

// P9.9: characters of 20 things are orthogonal, too.
func TestGreatOrthogonal(t *testing.T) {
	r := rand.New(rand.NewSource(8))
	for range 3 {
		p, q := randomPartition(r, 20), randomPartition(r, 20)
		same, other := new(big.Int), new(big.Int)
		for _, c := range partitionsOf(t, 20) {
			size := bigOf(must[[]int](t)(count.ClassSize(c)))
			x, y := big.NewInt(int64(character(t, p, c))), big.NewInt(int64(character(t, q, c)))
			same.Add(same, times(size, x, x))
			other.Add(other, times(size, x, y))
		}
		want(t, fmt.Sprintf("the row of %v with itself", p), same.String(), factorial(20).String())
		want(t, fmt.Sprintf("the rows of %v and %v", p, q), other.Sign() == 0, fmt.Sprint(p) != fmt.Sprint(q))
	}
}
