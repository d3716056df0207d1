package cylinder

import (
	"strconv"
	"strings"

	"flatland/api"
	"flatland/field"
)

// text writes the cylinders and the rest of a decomposition.
func text(r *field.Real, x api.Decomposition) string {
	var b strings.Builder
	for _, c := range x.Cylinders {
		words := []string{"cylinder"}
		words = appendNumbers(words, c.Below)
		words = append(words, "/")
		words = appendNumbers(words, c.Above)
		words = append(words, "T", r.Format(c.T), "H", r.Format(c.Height), "W", r.Format(c.Twist))
		b.WriteString(strings.Join(words, " ") + "\n")
	}
	b.WriteString("rest " + r.Format(x.Rest) + "\n")
	return b.String()
}

// appendNumbers appends the texts of numbers.
func appendNumbers(words []string, l []int) []string {
	for _, n := range l {
		words = append(words, strconv.Itoa(n))
	}
	return words
}
