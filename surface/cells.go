package surface

import (
	"slices"
	"strconv"
	"strings"

	"flatland/api"
	"flatland/field"
)

// Cells returns the Delaunay cells of a surface.
func Cells(s api.Surface) (api.Surface, api.Errno) { return changed(s, (*body).cells) }

// Label returns the label of a surface.
func Label(s api.Surface) (string, api.Errno) {
	b, e := openWhole(s)
	if e == api.OK {
		e = b.cells()
	}
	if e != api.OK {
		return "", e
	}
	name, e := field.FormatField(s.Field)
	if e != api.OK {
		return "", e
	}
	return name + "\n" + b.leastCode(), api.OK
}

// cells makes the Delaunay cells of the surface.
func (b *body) cells() api.Errno {
	if e := b.delaunay(); e != api.OK {
		return e
	}
	places := map[api.Slot]api.Slot{} // the edges that stay, and their partners
	for at := range b.slots() {
		places[at] = b.partner(at)
	}
	for at, to := range places {
		if b.opposite(at) == 0 {
			delete(places, at)
			delete(places, to)
		}
	}
	var parts []part
	done := map[api.Slot]bool{}
	for at := range b.slots() {
		if _, stays := places[at]; !stays || done[at] {
			continue
		}
		border := b.border(at, places)
		if len(border) > api.MaxEdges {
			return api.ErrLarge
		}
		for _, x := range border {
			done[x] = true
		}
		parts = append(parts, part{len(parts), border})
	}
	b.rearrange(parts...)
	b.keep(len(parts))
	return api.OK
}

// border returns the edges of a cell, from one of those that stay on.
func (b *body) border(first api.Slot, places map[api.Slot]api.Slot) []api.Slot {
	list := []api.Slot{first}
	for at := b.along(first, 1); at != first; at = b.along(at, 1) {
		if _, stays := places[at]; stays {
			list = append(list, at)
		} else {
			at = b.partner(at)
		}
	}
	return list
}

// leastCode returns the least one of the codes from all slots.
func (b *body) leastCode() string {
	texts := make([][]string, len(b.faces))
	var first []string
	for f, edges := range b.faces {
		for _, v := range edges {
			texts[f] = append(texts[f], b.Format(v.X)+" "+b.Format(v.Y)+" ")
		}
		first = append(first, slices.Min(texts[f]))
	}
	// With both blanks none of these texts begins another one, so a code that is the least one begins with the least text.
	begin, least := slices.Min(first), ""
	for at := range b.slots() {
		if texts[at.Face][at.Edge] != begin {
			continue
		}
		if code := b.code(at, texts); least == "" || code < least {
			least = code
		}
	}
	return least
}

// code returns the code from a slot, texts being what is written for the vectors.
func (b *body) code(first api.Slot, texts [][]string) string {
	var text strings.Builder
	number := make([]int, len(b.faces)) // of each face, or -1
	for f := range number {
		number[f] = -1
	}
	number[first.Face] = 0
	entered := []api.Slot{first}
	for i := 0; i < len(entered); i++ {
		for _, at := range b.between(entered[i], entered[i]) {
			to := b.partner(at)
			if number[to.Face] < 0 {
				number[to.Face] = len(entered)
				entered = append(entered, to)
			}
			n := number[to.Face]
			text.WriteString(texts[at.Face][at.Edge])
			text.WriteString(strconv.Itoa(n))
			text.WriteByte(' ')
			text.WriteString(strconv.Itoa(b.along(to, -entered[n].Edge).Edge))
			text.WriteByte(';')
		}
		text.WriteByte('\n')
	}
	return text.String()
}
