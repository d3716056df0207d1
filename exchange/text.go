package exchange

import (
	"strconv"
	"strings"

	"flatland/api"
)

// between stands between the rows.
const between = " / "

// maxText is the number of bytes of the longest text: a digit for each letter, with a blank or what is between the rows before all but the first one.
const maxText = 4*api.MaxLetters - 2 + len(between)

// text writes rows.
func text(r api.Rows) string { return rowText(r.Top) + between + rowText(r.Bottom) }

// rowText writes a row.
func rowText(row []int) string {
	words := make([]string, len(row))
	for i, c := range row {
		words[i] = strconv.Itoa(c)
	}
	return strings.Join(words, " ")
}

// parse returns the rows that a text seems to be.
func parse(s string) api.Rows {
	top, bottom, _ := strings.Cut(s, between)
	return api.Rows{Top: parseRow(top), Bottom: parseRow(bottom)}
}

// parseRow returns the row that a text seems to be.
func parseRow(s string) []int {
	var row []int
	for _, word := range strings.Split(s, " ") {
		c, _ := strconv.Atoi(word)
		row = append(row, c)
	}
	return row
}
