package billiard

import (
	"strings"

	"flatland/api"
	"flatland/field"
)

// The words with which the lines of a table begin.
const (
	tableWord  = "table"
	cornerWord = "corner"
)

// Print writes a table.
func Print(t api.Table) (string, api.Errno) {
	b, e := open(t)
	if e != api.OK {
		return "", e
	}
	name, e := field.FormatField(t.Field)
	if e != api.OK {
		return "", e
	}
	var text strings.Builder
	line := func(words ...string) { text.WriteString(strings.Join(words, " ") + "\n") }
	line(tableWord, name)
	for _, v := range b.corners {
		line(cornerWord, b.Format(v.X), b.Format(v.Y))
	}
	return text.String(), api.OK
}

// Parse reads a table; beside an error it returns the number of the line that is wrong, or 0.
func Parse(text string) (api.Table, int, api.Errno) {
	if len(text) > api.MaxText {
		return api.Table{}, 0, api.ErrLarge
	}
	t, line := parse(text)
	if line > 0 {
		return api.Table{}, line, api.ErrSyntax
	}
	if e := Check(t); e != api.OK {
		return api.Table{}, 0, e
	}
	return t, 0, api.OK
}

// parse reads a table that is not checked, or returns the number of the first line that has not the form.
func parse(text string) (api.Table, int) {
	head, rest, ok := strings.Cut(text, "\n")
	name, isTable := strings.CutPrefix(head, tableWord+" ")
	f, e := field.ParseField(name)
	if !ok || !isTable || e != api.OK {
		return api.Table{}, 1
	}
	r, _ := field.Open(f)
	t := api.Table{Field: f}
	for n := 2; rest != ""; n++ {
		head, rest, ok = strings.Cut(rest, "\n")
		v, isCorner := parseCorner(r, head)
		if !ok || !isCorner {
			return api.Table{}, n
		}
		t.Corners = append(t.Corners, v)
	}
	return t, 0
}

// parseCorner reads the line of a corner.
func parseCorner(r *field.Real, line string) (api.Vec, bool) {
	words := strings.Split(line, " ")
	if len(words) != 3 || words[0] != cornerWord {
		return api.Vec{}, false
	}
	x, e := r.Parse(words[1])
	y, g := r.Parse(words[2])
	return api.Vec{X: x, Y: y}, e == api.OK && g == api.OK
}
