package exchange

import (
	"slices"

	"flatland/api"
	"flatland/field"
)

// measure returns the greatest number of which all lengths are whole multiples, and how many times they are, by letters; or ErrOpen if there is none, or they add up to more than MaxPoints.
func (b *body) measure() (unit api.Num, sizes []int, e api.Errno) {
	var quotients []api.Num
	least := api.Int{1} // common multiple of their denominators
	for _, length := range b.lengths {
		q, e := b.Quo(length, b.lengths[0])
		if e != api.OK || len(q.C) > 1 {
			return api.Num{}, nil, api.ErrOpen
		}
		quotients = append(quotients, q)
		least = field.Mul(least, part(q.D, field.Gcd(least, q.D)))
	}
	// As least is a common multiple and no smaller one is, these integers have no common divisor.
	rest := api.MaxPoints
	for _, q := range quotients {
		n, ok := field.Small(field.Mul(q.C[0], part(least, q.D)))
		if !ok || n > rest {
			return api.Num{}, nil, api.ErrOpen
		}
		rest -= n
		sizes = append(sizes, n)
	}
	unit, e = b.Quo(b.lengths[0], api.Num{C: []api.Int{least}})
	return unit, sizes, e
}

// part returns x/y, y being a divisor of x.
func part(x, y api.Int) api.Int {
	q, _, _ := field.DivMod(x, y)
	return q
}

// track is an exchange that permutes cells of one width: the letter of each cell, and its image.
type track struct{ letters, images []int }

// newTrack returns the track of an exchange whose intervals consist of so many cells.
func newTrack(r api.Rows, sizes []int) track {
	begins := make([]int, len(sizes)) // of the bottom intervals
	end := 0
	for _, c := range r.Bottom {
		begins[c] = end
		end += sizes[c]
	}
	var t track
	for _, c := range r.Top {
		for i := range sizes[c] {
			t.letters = append(t.letters, c)
			t.images = append(t.images, begins[c]+i)
		}
	}
	return t
}

// orbit returns a cell with all its images.
func (t track) orbit(cell int) []int {
	list := []int{cell}
	for i := t.images[cell]; i != cell; i = t.images[i] {
		list = append(list, i)
	}
	return list
}

// isLast reports whether a cell is the last one of a top interval.
func (t track) isLast(cell int) bool {
	return cell == len(t.letters)-1 || t.letters[cell+1] != t.letters[cell]
}

// parted reports of each cell whether its code and that of the next one to the right differ at some time. They do if one of its images is the last cell of a top interval; otherwise both stay side by side for ever.
func (t track) parted() []bool {
	parted := make([]bool, len(t.letters))
	for cell := range parted {
		if t.isLast(cell) && !parted[cell] {
			for _, i := range t.orbit(cell) {
				parted[i] = true
			}
		}
	}
	return parted
}

// belts returns the belts of an exchange whose lengths are so many times a unit.
func (b *body) belts(unit api.Num, sizes []int) []api.Belt {
	t := newTrack(b.rows, sizes)
	parted := t.parted()
	done := make([]bool, len(parted)) // the first cells of intervals whose belt is known
	var list []api.Belt
	for first := 0; first < len(parted); {
		width := slices.Index(parted[first:], true) + 1
		if !done[first] {
			x := api.Belt{Left: b.times(first, unit), Width: b.times(width, unit)}
			for _, i := range t.orbit(first) {
				done[i] = true
				x.Code = append(x.Code, t.letters[i])
			}
			list = append(list, x)
		}
		first += width
	}
	return list
}

// times returns n x.
func (b *body) times(n int, x api.Num) api.Num { return b.Mul(field.Whole(n), x) }
