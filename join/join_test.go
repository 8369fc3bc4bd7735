package join_test

import (
	"math"
	"slices"
	"testing"

	"greenwood/api"
	"greenwood/join"
)

type edges = [][2]int

// mostEdges is how many edges a graph has, at most.
const mostEdges = 4096

// told holds all that is told of a graph against what is wanted.
func told(t *testing.T, n int, e edges, comps []int, parts [][]int, rank int, forest bool) {
	t.Helper()
	if l, err := join.Comps(n, e); err != api.OK || !slices.Equal(l, comps) {
		t.Errorf("Comps(%d, %v): %v and %d, want %v", n, e, l, err, comps)
	}
	if p, err := join.Parts(n, e); err != api.OK || !slices.EqualFunc(p, parts, slices.Equal[[]int]) {
		t.Errorf("Parts(%d, %v): %v and %d, want %v", n, e, p, err, parts)
	}
	if got := join.Rank(n, e); got != rank {
		t.Errorf("Rank(%d, %v): %d, want %d", n, e, got, rank)
	}
	if got := join.Forest(n, e); got != forest {
		t.Errorf("Forest(%d, %v): %v", n, e, got)
	}
}

// refused asks each call of what is no graph.
func refused(t *testing.T, n int, e edges) {
	t.Helper()
	if l, err := join.Comps(n, e); err != api.ErrArg || len(l) != 0 {
		t.Errorf("Comps of %d vertices and %d edges: %v and %d", n, len(e), l, err)
	}
	if p, err := join.Parts(n, e); err != api.ErrArg || len(p) != 0 {
		t.Errorf("Parts of %d vertices and %d edges: %v and %d", n, len(e), p, err)
	}
	if rank := join.Rank(n, e); rank != -1 {
		t.Errorf("Rank of %d vertices and %d edges: %d", n, len(e), rank)
	}
	if join.Forest(n, e) {
		t.Errorf("Forest of %d vertices and %d edges", n, len(e))
	}
}

func TestGraphs(t *testing.T) {
	cases := []struct {
		n      int
		edges  edges
		comps  []int
		parts  [][]int
		rank   int
		forest bool
	}{
		{1, nil, []int{0}, [][]int{{0}}, 0, true},
		{1, edges{}, []int{0}, [][]int{{0}}, 0, true},
		{1, edges{{0, 0}}, []int{0}, [][]int{{0}}, 0, false},
		{2, nil, []int{0, 1}, [][]int{{0}, {1}}, 0, true},
		{2, edges{{0, 1}}, []int{0, 0}, [][]int{{0, 1}}, 1, true},
		{2, edges{{1, 0}}, []int{0, 0}, [][]int{{0, 1}}, 1, true},
		{2, edges{{1, 1}}, []int{0, 1}, [][]int{{0}, {1}}, 0, false},
		{2, edges{{0, 1}, {0, 1}}, []int{0, 0}, [][]int{{0, 1}}, 1, false},
		{2, edges{{0, 1}, {1, 0}}, []int{0, 0}, [][]int{{0, 1}}, 1, false},
		{2, edges{{0, 1}, {1, 1}}, []int{0, 0}, [][]int{{0, 1}}, 1, false},
		{3, edges{{0, 2}}, []int{0, 1, 0}, [][]int{{0, 2}, {1}}, 1, true},
		{3, edges{{2, 1}}, []int{0, 1, 1}, [][]int{{0}, {1, 2}}, 1, true},
		{3, edges{{2, 1}, {1, 0}}, []int{0, 0, 0}, [][]int{{0, 1, 2}}, 2, true},
		{3, edges{{0, 1}, {1, 2}, {2, 0}}, []int{0, 0, 0}, [][]int{{0, 1, 2}}, 2, false},
		{4, edges{{3, 1}, {2, 0}}, []int{0, 1, 0, 1}, [][]int{{0, 2}, {1, 3}}, 2, true},
		{4, edges{{2, 3}, {3, 2}, {0, 1}}, []int{0, 0, 2, 2}, [][]int{{0, 1}, {2, 3}}, 2, false},
		// Parts that have both grown are joined: all of both must hear of it.
		{6, edges{{5, 4}, {3, 2}, {5, 3}, {1, 0}, {4, 1}}, []int{0, 0, 0, 0, 0, 0}, [][]int{{0, 1, 2, 3, 4, 5}}, 5, true},
		{6, edges{{0, 5}, {1, 4}, {2, 3}}, []int{0, 1, 2, 2, 1, 0}, [][]int{{0, 5}, {1, 4}, {2, 3}}, 3, true},
		{7, edges{{6, 3}, {3, 6}, {2, 5}, {5, 4}, {4, 2}, {1, 1}}, []int{0, 1, 2, 3, 2, 2, 3}, [][]int{{0}, {1}, {2, 4, 5}, {3, 6}}, 3, false},
	}
	for _, c := range cases {
		told(t, c.n, c.edges, c.comps, c.parts, c.rank, c.forest)
	}
}

// all tells 0 to n - 1.
func all(n int) []int {
	var l []int
	for v := range n {
		l = append(l, v)
	}
	return l
}

func TestMostVertices(t *testing.T) {
	const n = api.MaxV
	var alone [][]int
	for v := range n {
		alone = append(alone, []int{v})
	}
	told(t, n, nil, all(n), alone, 0, true)
	one := [][]int{all(n)}
	var up, down, star edges
	for v := range n - 1 {
		up = append(up, [2]int{v, v + 1})
		down = append(down, [2]int{n - 1 - v, n - 2 - v})
		star = append(star, [2]int{n - 1, v})
	}
	for _, e := range []edges{up, down, star} {
		told(t, n, e, make([]int, n), one, n-1, true)
		told(t, n, append(e, [2]int{n - 1, 0}), make([]int, n), one, n-1, false)
		told(t, n, append(e, [2]int{n - 1, n - 1}), make([]int, n), one, n-1, false)
	}
	// Far parts: the even vertices, and the odd ones.
	var steps edges
	comps, even, odd := make([]int, n), []int{0}, []int{1}
	comps[1] = 1
	for v := range n - 2 {
		steps = append(steps, [2]int{v + 2, v})
		comps[v+2] = v % 2
		if v%2 == 0 {
			even = append(even, v+2)
		} else {
			odd = append(odd, v+2)
		}
	}
	told(t, n, steps, comps, [][]int{even, odd}, n-2, true)
}

func TestMostEdges(t *testing.T) {
	const n = api.MaxV
	told(t, 1, make(edges, mostEdges), []int{0}, [][]int{{0}}, 0, false)
	same := slices.Repeat(edges{{0, 2}}, mostEdges)
	told(t, 3, same, []int{0, 1, 0}, [][]int{{0, 2}, {1}}, 1, false)
	var every edges
	for a := range n {
		for b := range n {
			every = append(every, [2]int{a, b})
		}
	}
	if len(every) != mostEdges {
		t.Fatalf("%d edges", len(every))
	}
	told(t, n, every, make([]int, n), [][]int{all(n)}, n-1, false)
	// The last edge counts like all others.
	last := append(make(edges, mostEdges-1), [2]int{1, 2})
	told(t, 3, last, []int{0, 1, 1}, [][]int{{0}, {1, 2}}, 1, false)
}

func TestNoGraphByVertices(t *testing.T) {
	for _, n := range []int{0, -1, -2, -64, math.MinInt, api.MaxV + 1, 100, mostEdges, 1 << 40, math.MaxInt} {
		for _, e := range []edges{nil, {}, {{0, 0}}, {{0, 1}}, {{n, n}}, {{n - 1, 0}}, make(edges, mostEdges), make(edges, mostEdges+1)} {
			refused(t, n, e)
		}
	}
}

func TestNoGraphByEnds(t *testing.T) {
	for _, n := range []int{1, 2, 3, api.MaxV - 1, api.MaxV} {
		for _, bad := range []int{-1, -2, -n, math.MinInt, n, n + 1, 1 << 40, math.MaxInt} {
			for _, good := range []int{0, n / 2, n - 1} {
				for _, e := range [][2]int{{bad, good}, {good, bad}, {bad, bad}} {
					refused(t, n, edges{e})
					refused(t, n, edges{e, {good, good}})
					refused(t, n, edges{{0, n - 1}, {good, good}, e})
					refused(t, n, append(make(edges, mostEdges-1), e))
				}
			}
		}
	}
}

func TestNoGraphByHowManyEdges(t *testing.T) {
	for _, n := range []int{1, 2, api.MaxV} {
		for _, many := range []int{mostEdges + 1, mostEdges + 2, 2 * mostEdges, 1 << 20} {
			refused(t, n, make(edges, many))
			refused(t, n, slices.Repeat(edges{{0, n - 1}}, many))
		}
	}
}
