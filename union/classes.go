package union

import (
	"greenwood/api"
	"greenwood/indep"
	"greenwood/reach"
	"greenwood/set"
)

// none is told of an element that is in no class.
const none = -1

// classes are several matroids, and for each element the number of the one in whose class it is, or none.
type classes struct {
	l  []api.Matroid
	of []int
}

// way tells the way along which classes change next; if there is none, what one comes to from the elements of none.
//
// To know of an arc costs much, so only those are looked for that may be on a shortest way, from all that are as far away at
// once: first to the matroids' points, as the way ends there, and then to elements that are not come to yet.
func (c classes) way() ([]int, []int) {
	all := set.All(len(c.of))
	adj := make([][]int, len(c.of)+len(c.l))
	from, to := Class(c.of, none), set.Minus(set.All(len(adj)), all)
	var near []int
	for come := from; len(come) > len(near); {
		far := set.Minus(come, near)
		for _, x := range far {
			// A way that begins at x is less than those of as many arcs that begin at the next ones: these needn't be asked.
			if adj[x] = c.room(x); c.of[x] == none && len(adj[x]) > 0 {
				break
			}
		}
		if way, ok := reach.Path(adj, from, to); ok {
			return way, nil
		}
		for _, x := range far {
			adj[x] = c.stands(x, set.Minus(all, come))
		}
		near, come = come, reach.From(adj, from)
	}
	return nil, near
}

// room tells the points of the matroids in whose classes, other than its own, there is room for x.
func (c classes) room(x int) []int {
	var points []int
	for k := range c.l {
		if k != c.of[x] && c.takes(k, Class(c.of, k), x) {
			points = append(points, len(c.of)+k)
		}
	}
	return points
}

// stands tells those of a set, all of which have a class, for which x may stand there, if that is not its own.
func (c classes) stands(x int, s []int) []int {
	var l []int
	for _, y := range s {
		k := c.of[y]
		if k != c.of[x] && c.takes(k, set.Minus(Class(c.of, k), []int{y}), x) {
			l = append(l, y)
		}
	}
	return l
}

// takes tells whether a set, with x, is independent in matroid k.
func (c classes) takes(k int, s []int, x int) bool {
	return indep.Indep(c.l[k], set.Union(s, []int{x}))
}

// turn gives each element on a way the class that the next one had, and the last one that of the matroid's point.
func (c classes) turn(way []int) {
	for i, next := range way[1:] {
		if next < len(c.of) {
			c.of[way[i]] = c.of[next]
		} else {
			c.of[way[i]] = next - len(c.of)
		}
	}
}
