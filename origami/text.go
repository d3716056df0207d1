package origami

import (
	"strconv"
	"strings"

	"flatland/api"
)

// The words with which the lines of an origami begin.
const (
	rightWord = "right"
	upWord    = "up"
)

// text writes an origami.
func text(o api.Origami) string { return line(rightWord, o.Right) + line(upWord, o.Up) }

// line writes a line of numbers behind a word.
func line(word string, numbers []int) string {
	var s strings.Builder
	s.WriteString(word)
	for _, x := range numbers {
		s.WriteString(" " + strconv.Itoa(x))
	}
	return s.String() + "\n"
}

// parse returns the origami that a text seems to be.
func parse(s string) api.Origami {
	first, second, _ := strings.Cut(s, "\n")
	return api.Origami{Right: parseLine(first), Up: parseLine(strings.TrimSuffix(second, "\n"))}
}

// parseLine returns the numbers that stand in a line behind its word.
func parseLine(line string) []int {
	var numbers []int
	for _, word := range strings.Split(line, " ")[1:] {
		x, _ := strconv.Atoi(word)
		numbers = append(numbers, x)
	}
	return numbers
}
