package archive

import (
	"strconv"
	"strings"

	"flatland/api"
)

// maxItem is the size of the numbers of a value in a text.
const maxItem = 1000000000000000

// tape is the words of a text, which are written one behind the other, or read.
//
// The same methods do both, so that just those texts are read that are written. They go through a value by pointers, since it is given for writing and made by reading; writing stores nothing there.
type tape struct {
	reading bool
	written []byte
	words   []string  // those that have not been read yet
	e       api.Errno // the first error
}

// fail notes an error. Then nothing more is there to be read, so that reading ends, with zero values.
func (t *tape) fail(e api.Errno) {
	if t.reading {
		e, t.words = api.ErrSyntax, nil
	}
	if t.e == api.OK {
		t.e = e
	}
}

// next reads a word.
func (t *tape) next() string {
	if len(t.words) == 0 {
		return ""
	}
	word := t.words[0]
	t.words = t.words[1:]
	return word
}

// write writes a word; a text that is too long already does not grow, as it is not returned.
func (t *tape) write(word string) {
	if len(t.written) > 0 {
		word = " " + word
	}
	if t.e == api.OK && len(t.written) <= api.MaxText {
		t.written = append(t.written, word...)
	}
}

// title goes on with a certain word.
func (t *tape) title(word string) {
	if !t.reading {
		t.write(word)
	} else if t.next() != word {
		t.fail(api.ErrSyntax)
	}
}

// name goes on with a name.
func (t *tape) name(n *string) {
	if t.reading {
		*n = strings.Clone(t.next())
	}
	if !isName(*n) {
		t.fail(api.ErrName)
	} else if !t.reading {
		t.write(*n)
	}
}

// limited goes on with a number from low to high.
func (t *tape) limited(n *int, low, high int) {
	ok := false
	if t.reading {
		*n, ok = decimal(t.next(), low, high)
	} else {
		t.write(strconv.Itoa(*n))
		ok = within(*n, low, high)
	}
	if !ok {
		t.fail(api.ErrRange)
	}
}

// list goes on with the length of a list and its elements.
func list[T any](t *tape, l *[]T, element func(x *T)) {
	n, most := len(*l), maxItem
	if t.reading {
		most = len(t.words) // an element has a word at least, so no list is made that is longer than its text
	}
	t.limited(&n, 0, most)
	if t.reading {
		*l = make([]T, n)
	}
	for i := range *l {
		element(&(*l)[i])
	}
}

func (t *tape) number(n *int) { t.limited(n, -maxItem, maxItem) }

func (t *tape) numbers(l *[]int) { list(t, l, t.number) }

func (t *tape) lists(l *[][]int) { list(t, l, t.numbers) }

func (t *tape) text(s *string) {
	bytes := []byte(*s)
	list(t, &bytes, t.letter)
	if t.reading {
		*s = string(bytes)
	}
}

func (t *tape) letter(b *byte) {
	n := int(*b)
	t.limited(&n, 0, 255)
	if t.reading {
		*b = byte(n)
	}
}

func (t *tape) truth(b *bool) {
	n := 0
	if *b {
		n = 1
	}
	t.limited(&n, 0, 1)
	if t.reading {
		*b = n == 1
	}
}

// decimal returns the number from low to high that a word writes.
func decimal(word string, low, high int) (int, bool) {
	n, e := strconv.Atoi(word)
	// Only the writing of a number that is written itself is its text: "07" and "+7" are none.
	if e != nil || strconv.Itoa(n) != word || !within(n, low, high) {
		return 0, false
	}
	return n, true
}
