package swap

import (
	"greenwood/api"
	"greenwood/indep"
	"greenwood/set"
)

// side is one of the two matroids, and of a set that is independent in it what one must know.
type side struct {
	api.Matroid
	s    []int
	more []int // the set of those elements that may be added to s, each alone
}

// sideOf tells the side of a matroid, and of a set that is independent in it.
func sideOf(m api.Matroid, s []int) side {
	d := side{Matroid: m, s: s}
	for _, x := range d.others() {
		if d.takes(s, x) {
			d.more = append(d.more, x)
		}
	}
	return d
}

// others tells the set of all elements that are not in the set.
func (d side) others() []int { return set.Minus(set.All(d.N), d.s) }

// takes tells whether a set of elements, with one more, is independent.
func (d side) takes(s []int, x int) bool {
	return indep.Indep(d.Matroid, set.Union(s, []int{x}))
}

// stands tells whether x, which is not in the set, may stand for y, which is in it.
func (d side) stands(x, y int) bool {
	// What may be added to the whole set may be added to a part of it, too: of that nothing needs to be asked again.
	return set.Has(d.more, x) || d.takes(set.Minus(d.s, []int{y}), x)
}
