package swap_test

import (
	"slices"
	"testing"

	"greenwood/api"
	"greenwood/indep"
	"greenwood/reach"
	"greenwood/set"
	"greenwood/swap"
)

// circle tells the matroid of a circle of 64 vertices.
func circle() kind {
	m := kind{Tag: api.Graph, N: 64, A: 64}
	for v := range 64 {
		m.List = append(m.List, []int{v, (v + 1) % 64})
	}
	return m
}

// between tells the digraph of 64 elements with all arcs from a set to the others, and back if these are wanted.
func between(s []int, there, back bool) lists {
	adj, others := make(lists, 64), set.Minus(set.All(64), s)
	for x := range adj {
		switch {
		case slices.Contains(s, x) && there:
			adj[x] = others
		case !slices.Contains(s, x) && back:
			adj[x] = s
		}
	}
	return adj
}

func TestLargeUniform(t *testing.T) {
	all := set.All(64)
	for _, many := range []int{0, 1, 31, 32, 63, 64} {
		s := all[:many]
		others := set.Minus(all, s)
		bothWays(t, kind{N: 64, A: many}, kind{N: 64, A: many}, s, between(s, true, true), nil, nil)
		bothWays(t, kind{N: 64, A: many}, free(64), s, between(s, true, true), nil, others)
		bothWays(t, free(64), free(64), s, between(s, true, true), others, others)
		if many > 0 {
			nothing(t, kind{N: 64, A: many - 1}, free(64), s)
		}
	}
	nothing(t, kind{N: 65, A: 64}, kind{N: 65, A: 64}, nil)
}

func TestLargeCircle(t *testing.T) {
	all := set.All(64)
	twice := kind{Tag: api.Dual, N: 64, Inner: []kind{{Tag: api.Dual, N: 64, Inner: []kind{circle()}}}}
	cuts := kind{Tag: api.Dual, N: 64, Inner: []kind{circle()}}
	for _, m := range []kind{circle(), {Tag: api.Sum, N: 64, Inner: []kind{circle()}}, twice} {
		for _, x := range []int{0, 1, 40, 63} {
			s := set.Minus(all, []int{x})
			bothWays(t, m, kind{N: 64, A: 63}, s, between(s, true, true), nil, nil)
			bothWays(t, m, free(64), s, between(s, true, true), nil, []int{x})
			bothWays(t, m, cuts, []int{x}, between([]int{x}, true, true), set.Minus(all, []int{x}), nil)
		}
		bothWays(t, m, free(64), all[:62], between(all[:62], true, true), []int{62, 63}, []int{62, 63})
		nothing(t, m, free(64), all)
		nothing(t, m, cuts, []int{0, 1})
	}
}

func TestLargeHalves(t *testing.T) {
	// One of x and x + 32, for each x; who has a place in the other half stands for that one alone.
	halves := kind{Tag: api.Part, N: 64, A: 32, List: lists{nil, slices.Repeat([]int{1}, 32)}}
	columns := kind{Tag: api.Linear, N: 64, A: 32, B: 1<<31 - 1}
	sides := kind{Tag: api.Trans, N: 64, A: 32}
	for x := range 64 {
		halves.List[0] = append(halves.List[0], x%32)
		column := make([]int, 32)
		column[x%32] = x + 1
		columns.List = append(columns.List, column)
		sides.List = append(sides.List, []int{x % 32})
	}
	s := set.All(64)[16:48]
	adj := make(lists, 64)
	for x := range adj {
		adj[x] = []int{(x + 32) % 64}
	}
	l := []kind{halves, columns, sides}
	for i, m := range l {
		bothWays(t, m, l[(i+1)%3], s, adj, nil, nil)
	}
	// In the one those for whom one stands, in the other one nobody else at all.
	only := kind{Tag: api.Part, N: 64, A: 2, List: lists{make([]int, 64), {0, 64}}}
	for _, x := range s {
		only.List[0][x] = 1
	}
	adj = between(s, false, false)
	for _, x := range s {
		adj[x] = []int{(x + 32) % 64}
	}
	bothWays(t, halves, only, s, adj, nil, nil)
}

func TestLargeLongWay(t *testing.T) {
	// 63 in a row, of which each two neighbours are one's or the other one's pair; and one that is independent in neither.
	a, b := pairs(63, 1), pairs(63, 0)
	for _, m := range []*kind{&a, &b} {
		m.N, m.A = 64, m.A+1
		m.List = lists{append(m.List[0], m.A-1), append(m.List[1], 0)}
	}
	var odd, even, row []int
	adj := make(lists, 64)
	for x := range 63 {
		row = append(row, x)
		if x%2 == 0 {
			even = append(even, x)
			continue
		}
		odd = append(odd, x)
		// 0 may be added in a, and 62 in b: the one stands for all there, and so does the other one.
		adj[x] = []int{0, x + 1}
	}
	for _, x := range even {
		adj[x] = []int{x + 1}
	}
	adj[62] = odd
	bothWays(t, a, b, odd, adj, []int{0}, []int{62})
	path, ok := reach.Path(adj, []int{0}, []int{62})
	if !ok || !slices.Equal(path, row) {
		t.Fatalf("the way is %v, %v", path, ok)
	}
	turns(t, odd, path, even...)
	turns(t, even, path, odd...)
	may(t, a, b, even, true)
}

func TestLargeWhileItGrows(t *testing.T) {
	// From nothing on, each time along a shortest way, up to the greatest one.
	grid := kind{Tag: api.Graph, N: 64, A: 33}
	colours := kind{Tag: api.Part, N: 64, A: 16, List: lists{nil, slices.Repeat([]int{2}, 16)}}
	for x := range 64 {
		grid.List = append(grid.List, []int{x % 33, (x*x + 5) % 33})
		colours.List[0] = append(colours.List[0], x/4)
	}
	var s []int
	for {
		adj, from, to, e := swap.Graph(grid, colours, s)
		path, ok := reach.Path(adj, from, to)
		if e != api.OK || !ok {
			break
		}
		next := swap.Turn(s, path)
		if len(next) != len(s)+1 || !swap.May(grid, colours, next) {
			t.Fatalf("%v becomes %v along %v", s, next, path)
		}
		s = next
	}
	adj, from, _, e := swap.Graph(grid, colours, s)
	// Those that one comes to show that it is the greatest one.
	come := reach.From(adj, from)
	bound := indep.Rank(grid, set.Minus(set.All(64), come)) + indep.Rank(colours, come)
	if e != api.OK || len(s) < 20 || len(s) != bound {
		t.Errorf("%v has %d, and the bound is %d; error %d", s, len(s), bound, e)
	}
}
