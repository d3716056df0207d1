package orbit

import (
	"slices"

	"flatland/api"
)

// unknown is the distance of a member that has not been reached.
const unknown = -1

// distances returns how many letters S and T it takes to reach each member from one of them.
func distances(x api.Orbit, from int) []int {
	list := slices.Repeat([]int{unknown}, len(x.Labels))
	list[from] = 0
	for work := []int{from}; len(work) > 0; work = work[1:] {
		i := work[0]
		for _, next := range [2]int{x.S[i], x.T[i]} {
			if list[next] == unknown {
				list[next] = list[i] + 1
				work = append(work, next)
			}
		}
	}
	return list
}

// arrow is where a letter leads from each member, and from where it leads to each member.
type arrow struct {
	letter   byte
	to, from []int
}

// ways is the ways from a member of an orbit to all others.
type ways struct {
	arrows    []arrow
	distances []int
}

// waysFrom returns the ways from a member.
func waysFrom(x api.Orbit, from int) ways {
	return ways{[]arrow{{'S', x.S, inverse(x.S)}, {'T', x.T, inverse(x.T)}}, distances(x, from)}
}

// to returns the way to a member. It is gone back: the last step has the first letter, which has to be the least one.
func (w ways) to(member int) string {
	var letters []byte
back:
	for w.distances[member] > 0 {
		for _, a := range w.arrows {
			if before := a.from[member]; w.distances[before] < w.distances[member] {
				letters = append(letters, a.letter)
				member = before
				continue back
			}
		}
	}
	return string(letters)
}

// generators returns words that generate the Veech group of an origami with this orbit, or ErrLarge.
func generators(x api.Orbit, o api.Origami) ([]string, api.Errno) {
	first, _ := find(x, o)
	w := waysFrom(x, first)
	var list []string
	done := map[string]bool{"": true}
	for i := range x.Labels {
		for _, a := range w.arrows {
			g := reduced(inverseWord(w.to(a.to[i])) + string(rune(a.letter)) + w.to(i))
			if len(g) > api.MaxWord {
				return nil, api.ErrLarge
			}
			if !done[g] {
				done[g] = true
				list = append(list, g)
			}
		}
	}
	return list, api.OK
}
