package origami

import (
	"cmp"
	"slices"

	"flatland/api"
)

// bands returns the horizontal cylinders that end at the lower left corners of the squares of which ends is true.
func bands(o api.Origami, ends func(x int) bool) []api.Band {
	rows := cycles(o.Right)
	done := make([]bool, len(o.Right))
	var list []api.Band
	add := func(row []int) {
		b := api.Band{Width: len(row)}
		for ; row != nil && !done[row[0]]; row = rowAbove(o, row, ends) {
			for _, x := range row {
				done[x] = true
			}
			b.Rows = append(b.Rows, row)
		}
		b.Height = len(b.Rows)
		list = append(list, b)
	}
	for _, row := range rows {
		if slices.ContainsFunc(row, ends) {
			add(row)
		}
	}
	// The other rows have bands that begin nowhere, and come back to the row with which they are begun.
	for _, row := range rows {
		if !done[row[0]] {
			add(row)
		}
	}
	slices.SortFunc(list, func(a, b api.Band) int { return cmp.Compare(leastSquare(a), leastSquare(b)) })
	return list
}

// rowAbove returns the row above another one, square above square, or nil if a band ends between them.
func rowAbove(o api.Origami, row []int, ends func(x int) bool) []int {
	if slices.ContainsFunc(row, func(x int) bool { return ends(o.Up[x]) }) {
		return nil
	}
	return cycle(o.Right, o.Up[row[0]])
}

// leastSquare returns the least square of a band.
func leastSquare(b api.Band) int {
	least := b.Rows[0][0]
	for _, row := range b.Rows {
		least = min(least, slices.Min(row))
	}
	return least
}

// saddles returns the horizontal saddle connections.
func saddles(o api.Origami) []api.Saddle {
	turn, corner := commutator(o), corners(o)
	numbers := map[int]int{} // of the saddles, by their squares
	for x := range turn {
		if turn[x] != x {
			numbers[x] = len(numbers)
		}
	}
	var list []api.Saddle
	for x := range turn {
		if turn[x] == x {
			continue
		}
		length, end := 1, o.Right[x]
		for turn[end] == end {
			length, end = length+1, o.Right[end]
		}
		// The way once around the right end leads below the line, to the right, and up again: to where the line goes on as it is seen from below.
		below := turn[end]
		list = append(list, api.Saddle{Square: x, Length: length, From: corner[x], To: corner[end], Above: numbers[end], Below: numbers[below]})
	}
	return list
}
