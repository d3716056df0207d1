package billiard

import (
	"iter"
	"slices"

	"flatland/api"
	"flatland/field"
)

// chord is the straight lines in one direction that cross a copy of the table from one side to another, seen in the table itself. These lines, and the corners of all copies, are told by their reach: by how far they are to the right of the point 0 of copy 0.
type chord struct {
	from, to int
	dir      api.Vec
	turned   bool // the copy is turned over: right is left
	shift    api.Num
}

// beam is an open interval of reaches.
type beam struct{ low, high api.Num }

// Strip returns the strip of a state.
func Strip(t api.Table, s api.State, n int) (api.Beam, api.Errno) {
	b, s, e := startHits(t, s, 0, n)
	if e != api.OK {
		return api.Beam{}, e
	}
	code, e := b.code(s, n)
	if e != api.OK {
		return api.Beam{}, e
	}
	c, own := leaving(s.Side, s.Dir), b.Cross(b.place(s), s.Dir)
	v, _ := b.beam(c, code, func(_ chord, v beam) bool { return b.Cmp(v.low, own) < 0 && b.Cmp(own, v.high) < 0 })
	width := b.Sub(v.high, v.low)
	return api.Beam{Lo: b.along(c, v.low), Hi: b.along(c, v.high), Square: b.divide(b.Mul(width, width), b.dot(s.Dir, s.Dir))}, api.OK
}

// leaving returns the chord of the lines that leave a side of the table itself.
func leaving(side int, dir api.Vec) chord {
	return chord{from: side, dir: dir, shift: field.Whole(0)}
}

// beam returns the lines that leave a side with a code, if there are any; free tells which one of the beams between corners crosses a copy with nothing in its way.
func (b *board) beam(c chord, code []int, free func(c chord, v beam) bool) (beam, bool) {
	v := beam{b.reach(c, c.from), b.reach(c, b.after(c.from))}
	for c := range b.chords(c, code) {
		left, right := b.reach(c, b.after(c.to)), b.reach(c, c.to)
		if c.turned {
			left, right = right, left
		}
		v = b.narrowed(v, left, right)
	}
	ok := b.Cmp(v.low, v.high) < 0
	reflex := b.reflex()
	if !ok || len(reflex) == 0 {
		// If the table is convex, a line that comes in through one side and goes out through another one meets nothing between.
		return v, ok
	}
	for c := range b.chords(c, code) {
		v, ok = b.gap(c, v, reflex, free)
		if !ok {
			break
		}
	}
	return v, ok
}

// chords yields the chords of the lines with a code, copy by copy.
func (b *board) chords(c chord, code []int) iter.Seq[chord] {
	return func(yield func(chord) bool) {
		for k, i := range code {
			if k > 0 {
				c = b.beyond(c)
			}
			c.to = i
			if !yield(c) {
				return
			}
		}
	}
}

// beyond returns the chord in the next copy. Both copies share the side between them, so its corner has the same reach in both.
func (b *board) beyond(c chord) chord {
	next := chord{from: c.to, dir: b.Apply(b.mirror(c.to), c.dir), turned: !c.turned}
	next.shift = b.Sub(b.reach(c, c.to), b.reach(next, c.to))
	return next
}

// reach returns the reach of a corner.
func (b *board) reach(c chord, corner int) api.Num {
	x := b.Cross(b.corners[corner], c.dir)
	if c.turned {
		return b.Sub(c.shift, x)
	}
	return b.Add(c.shift, x)
}

// narrowed returns the part of a beam between two reaches.
func (b *board) narrowed(v beam, low, high api.Num) beam {
	if b.Cmp(low, v.low) > 0 {
		v.low = low
	}
	if b.Cmp(high, v.high) < 0 {
		v.high = high
	}
	return v
}

// gap returns the part of a beam that crosses a copy with nothing in its way. The beam crosses both sides of the chord; what may be in its way begins at a reflex corner between both. As the table has no holes, there is just one such part, or none.
func (b *board) gap(c chord, v beam, reflex []int, free func(c chord, v beam) bool) (beam, bool) {
	var ends []api.Num
	for _, k := range reflex {
		if b.turn[c.from][k] < 0 || b.turn[c.to][k] < 0 {
			continue
		}
		if x := b.reach(c, k); b.Cmp(v.low, x) < 0 && b.Cmp(x, v.high) < 0 {
			ends = append(ends, x)
		}
	}
	slices.SortFunc(ends, b.Cmp)
	for _, x := range append(ends, v.high) {
		part := beam{v.low, x}
		if free(c, part) {
			return part, true
		}
		v.low = x
	}
	return beam{}, false
}

// along returns the place on the side from which a chord comes, as a multiple of the side, of the line with this reach.
func (b *board) along(c chord, reach api.Num) api.Num {
	begin := b.reach(c, c.from)
	return b.divide(b.Sub(reach, begin), b.Sub(b.reach(c, b.after(c.from)), begin))
}

// middle returns the line in the middle of a beam.
func (b *board) middle(v beam) api.Num { return b.half(b.Add(v.low, v.high)) }
