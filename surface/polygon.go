package surface

import (
	"slices"

	"flatland/api"
	"flatland/field"
)

// corners returns the corners of a face, the first one being 0, and where its last edge ends.
func (p plane) corners(edges []api.Vec) (corners []api.Vec, end api.Vec) {
	for _, v := range edges {
		corners = append(corners, end)
		end = p.Sum(end, v)
	}
	return corners, end
}

// doubleArea returns twice the area of a polygon.
func (p plane) doubleArea(corners []api.Vec) api.Num {
	sum := field.Whole(0)
	for i, v := range corners {
		sum = p.Add(sum, p.Cross(v, corners[(i+1)%len(corners)]))
	}
	return sum
}

// isRight reports whether vectors in normal form are the edges of a right face.
func (p plane) isRight(edges []api.Vec) bool {
	corners, end := p.corners(edges)
	if !isZero(end) || slices.ContainsFunc(edges, isZero) {
		return false
	}
	return p.Sign(p.doubleArea(corners)) > 0 && p.isSimple(edges, corners)
}

// isSimple reports whether neighbours have just their corner in common, and other edges no point. Parallel edges need not be compared, unless they are neighbours: if they meet, then one of the straight lines that they are part of begins or ends on the other one, and the next edge there, which is not parallel, meets it too.
func (p plane) isSimple(edges, corners []api.Vec) bool {
	n := len(edges)
	for i, u := range edges {
		if next := edges[(i+1)%n]; p.turn(u, next) == 0 && p.Sign(p.dot(u, next)) < 0 {
			return false
		}
		for j := i + 2; j < n; j++ {
			if (j+1)%n != i && p.meet(corners[i], u, corners[j], edges[j]) {
				return false
			}
		}
	}
	return true
}

// ear returns a corner of a face with more than three edges that a diagonal between its neighbours cuts off. (There always is one: each polygon can be cut into triangles, and at least two of them have just one diagonal.)
func (p plane) ear(edges []api.Vec) int {
	corners, _ := p.corners(edges)
	k := 0
	for !p.isEar(edges, corners, k) {
		k++
	}
	return k
}

// isEar reports whether the corner k is not straight or reflex, and the triangle of it and its neighbours has no other corner inside or on its border.
func (p plane) isEar(edges, corners []api.Vec, k int) bool {
	n := len(edges)
	before, after := (k+n-1)%n, (k+1)%n
	if p.turn(edges[before], edges[k]) <= 0 {
		return false
	}
	diagonal := p.minus(corners[before], corners[after])
	for i, v := range corners {
		if i == before || i == k || i == after {
			continue
		}
		if p.turn(edges[before], p.minus(v, corners[before])) >= 0 && p.turn(edges[k], p.minus(v, corners[k])) >= 0 && p.turn(diagonal, p.minus(v, corners[after])) >= 0 {
			return false
		}
	}
	return true
}
