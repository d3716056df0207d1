package exchange

import (
	"slices"

	"flatland/api"
	"flatland/field"
)

// line is an exchange with its intervals, by letters.
type line struct {
	*body
	top, bottom []api.Num // the beginnings of the intervals
	shifts      []api.Num
	total       api.Num
}

// openLine checks an exchange and divides its interval.
func openLine(x api.Exchange) (*line, api.Errno) {
	b, e := open(x)
	if e != api.OK {
		return nil, e
	}
	l := &line{body: b}
	l.top, l.total = b.divide(b.rows.Top)
	l.bottom, _ = b.divide(b.rows.Bottom)
	for c := range b.lengths {
		l.shifts = append(l.shifts, b.Sub(l.bottom[c], l.top[c]))
	}
	return l, api.OK
}

// divide returns the beginnings of the intervals of a row, and the end of the last one.
func (b *body) divide(row []int) (begins []api.Num, end api.Num) {
	begins = make([]api.Num, len(row))
	end = field.Whole(0)
	for _, c := range row {
		begins[c] = end
		end = b.Add(end, b.lengths[c])
	}
	return begins, end
}

// checkPoint returns an error if a point is not from 0 to less than end.
func (l *line) checkPoint(p, end api.Num) api.Errno {
	if l.Sign(p) < 0 || l.Cmp(p, end) >= 0 {
		return api.ErrRange
	}
	return api.OK
}

// checkLength returns an error if there is no interval of such a length at the beginning.
func (l *line) checkLength(length api.Num) api.Errno {
	if l.Sign(length) <= 0 || l.Cmp(length, l.total) > 0 {
		return api.ErrRange
	}
	return api.OK
}

// letter returns the letter of the top interval of a point.
func (l *line) letter(p api.Num) int {
	for _, c := range slices.Backward(l.rows.Top[1:]) {
		if l.Cmp(l.top[c], p) <= 0 {
			return c
		}
	}
	return l.rows.Top[0]
}

// apply returns the image of a point, and the letter of its top interval.
func (l *line) apply(p api.Num) (image api.Num, letter int) {
	letter = l.letter(p)
	return l.Add(p, l.shifts[letter]), letter
}

// orbit returns a point with its first n images, and its code.
func (l *line) orbit(p api.Num, n int) (points []api.Num, code []int) {
	points = append(points, l.Normal(p))
	for i := range n {
		image, letter := l.apply(points[i])
		points, code = append(points, image), append(code, letter)
	}
	return points, code
}

// comeBack returns the first image of a point that is less than length, and after how many steps it comes.
func (l *line) comeBack(p, length api.Num) (api.Num, int, api.Errno) {
	for steps := range api.MaxPoints {
		p, _ = l.apply(p)
		if l.Cmp(p, length) < 0 {
			return p, steps + 1, api.OK
		}
	}
	return api.Num{}, 0, api.ErrOpen
}

// connections returns the connections of at most so many steps.
func (l *line) connections(bound int) []api.Connection {
	var list []api.Connection
	for _, from := range l.rows.Bottom[1:] {
		if to, steps, ok := l.connect(l.bottom[from], bound); ok {
			list = append(list, api.Connection{From: from, To: to, Steps: steps})
		}
	}
	return list
}

// connect returns the top interval that is not the first one at whose beginning a point is first, and after how many steps, if these are at most bound.
func (l *line) connect(p api.Num, bound int) (to, steps int, ok bool) {
	for steps := range bound + 1 {
		image, c := l.apply(p)
		if c != l.rows.Top[0] && l.Cmp(l.top[c], p) == 0 {
			return c, steps, true
		}
		p = image
	}
	return 0, 0, false
}
