package orbit

import (
	"cmp"
	"slices"

	"flatland/api"
	"flatland/origami"
)

// labelOf returns the label of a connected origami.
func labelOf(o api.Origami) api.Origami {
	label, _, _ := origami.Label(o)
	return label
}

// compare compares origamis as lists, Right first, then Up.
func compare(a, b api.Origami) int {
	return cmp.Or(slices.Compare(a.Right, b.Right), slices.Compare(a.Up, b.Up))
}

// search is the labels that have been found, with their numbers by their texts.
type search struct {
	labels  []api.Origami
	numbers map[string]int
}

// number returns the number of a label, the next one if it has none yet.
func (s *search) number(label api.Origami) int {
	key, _ := origami.Print(label)
	i, ok := s.numbers[key]
	if !ok {
		i = len(s.labels)
		s.labels = append(s.labels, label)
		s.numbers[key] = i
	}
	return i
}

// enumerate returns the orbit of a connected origami, or ErrLarge.
func enumerate(o api.Origami) (api.Orbit, api.Errno) {
	s := search{numbers: map[string]int{}}
	s.number(labelOf(o))
	var images [][2]int // by S and by T
	// The labels that steps lead to come behind those that are gone through.
	for i := 0; i < len(s.labels); i++ {
		var next [2]int
		for k, step := range stepsForward() {
			next[k] = s.number(labelOf(step.act(s.labels[i])))
		}
		if len(s.labels) > api.MaxOrbit {
			return api.Orbit{}, api.ErrLarge
		}
		images = append(images, next)
	}
	return ordered(s.labels, images), api.OK
}

// ordered returns the orbit of labels in any order, with the numbers of their images.
func ordered(labels []api.Origami, images [][2]int) api.Orbit {
	var order []int // the labels, ascending
	for i := range labels {
		order = append(order, i)
	}
	slices.SortFunc(order, func(i, j int) int { return compare(labels[i], labels[j]) })
	place := inverse(order)
	var x api.Orbit
	for _, i := range order {
		x.Labels = append(x.Labels, labels[i])
		x.S = append(x.S, place[images[i][0]])
		x.T = append(x.T, place[images[i][1]])
	}
	return x
}

// isMember reports whether i is the number of a label.
func isMember(x api.Orbit, i int) bool { return within(i, 0, len(x.Labels)-1) }

// find returns the number of the label of a connected origami, if it is in an orbit.
func find(x api.Orbit, o api.Origami) (int, bool) {
	return slices.BinarySearchFunc(x.Labels, labelOf(o), compare)
}

// checkLabel returns the error of the label i of an orbit, the labels before it being without one.
func checkLabel(labels []api.Origami, i int) api.Errno {
	o := labels[i]
	if e := origami.Check(o); e != api.OK {
		return e
	}
	if len(o.Right) != len(labels[0].Right) {
		return api.ErrShape
	}
	own, _, e := origami.Label(o)
	switch {
	case e != api.OK:
		return e
	case compare(own, o) != 0:
		return api.ErrForm
	case i > 0 && compare(labels[i-1], o) >= 0:
		return api.ErrOrder
	}
	return api.OK
}

// checkImages returns an error if S and T of an orbit whose labels are right are not what the letters do, or do not lead to all labels.
func checkImages(x api.Orbit) api.Errno {
	isOut := func(i int) bool { return !isMember(x, i) }
	if slices.ContainsFunc(x.S, isOut) || slices.ContainsFunc(x.T, isOut) {
		return api.ErrRange
	}
	for i, o := range x.Labels {
		images := [2]int{x.S[i], x.T[i]}
		for k, step := range stepsForward() {
			if compare(labelOf(step.act(o)), x.Labels[images[k]]) != 0 {
				return api.ErrProof
			}
		}
	}
	if slices.Contains(distances(x, 0), unknown) {
		return api.ErrProof
	}
	return api.OK
}
