package homology

import (
	"slices"

	"flatland/api"
	"flatland/orbit"
)

// maxLetters is the number of letters of a word.
const maxLetters = 20

// letter takes the numbers of the bottom and of the left edge of a square to edges of the new origami, where they are added.
type letter func(t *tiling, square, bottom, left int, add func(edge, x int))

// letters returns the letters of words.
func letters() map[rune]letter {
	return map[rune]letter{
		'T': func(t *tiling, square, bottom, left int, add func(edge, x int)) {
			to := t.left[square]
			add(to, bottom)
			add(t.side(to), left)
			add(t.left[t.up[to]], left)
		},
		't': func(t *tiling, square, bottom, left int, add func(edge, x int)) {
			to := t.right[square]
			add(to, bottom)
			add(t.side(to), left)
			add(t.right[t.up[square]], -left)
		},
		'S': func(t *tiling, square, bottom, left int, add func(edge, x int)) {
			add(t.side(t.down[square]), bottom)
			add(square, -left)
		},
		's': func(t *tiling, square, bottom, left int, add func(edge, x int)) {
			add(t.side(square), -bottom)
			add(t.left[square], left)
		},
	}
}

// checkWord returns the error of a word.
func checkWord(word string) api.Errno {
	if len(word) > maxLetters {
		return api.ErrLarge
	}
	known := letters()
	for _, c := range word {
		if _, ok := known[c]; !ok {
			return api.ErrSyntax
		}
	}
	return api.OK
}

// push returns the origami to which a word takes another one, and the images of chains. The letters act from the last one to the first one. No number is too large for an int: a letter makes the sum of the sizes of all numbers at most twice as large.
func push(o api.Origami, word string, chains ...[]int) (api.Origami, [][]int) {
	o, _ = orbit.Act(o, "") // a copy
	var images [][]int
	for _, c := range chains {
		images = append(images, slices.Clone(c))
	}
	known := letters()
	for _, c := range slices.Backward([]rune(word)) {
		t, _ := open(o)
		for k := range images {
			images[k] = t.image(images[k], known[c])
		}
		o, _ = orbit.Act(o, string(c))
	}
	return o, images
}

// image returns the image of a chain by a letter.
func (t *tiling) image(c []int, act letter) []int {
	image := make([]int, len(c))
	for i := range t.squares() {
		act(t, i, c[i], c[t.side(i)], func(edge, x int) { image[edge] += x })
	}
	return image
}
