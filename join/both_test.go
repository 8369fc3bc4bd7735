package join_test

import (
	"slices"
	"testing"

	"greenwood/api"
	"greenwood/join"
)

// connected tells who is connected with whom, by ways of ever more vertices.
func connected(n int, e edges) [][]bool {
	ways := make([][]bool, n)
	for v := range ways {
		ways[v] = make([]bool, n)
		ways[v][v] = true
	}
	for _, x := range e {
		ways[x[0]][x[1]] = true
		ways[x[1]][x[0]] = true
	}
	for by := range n {
		for a := range n {
			for b := range n {
				ways[a][b] = ways[a][b] || ways[a][by] && ways[by][b]
			}
		}
	}
	return ways
}

// bySearch holds all that is told of a graph against what a search for ways finds.
func bySearch(t *testing.T, n int, e edges) {
	t.Helper()
	var comps []int
	var parts [][]int
	for v, with := range connected(n, e) {
		least := slices.Index(with, true)
		comps = append(comps, least)
		if least != v {
			continue
		}
		var part []int
		for u, in := range with {
			if in {
				part = append(part, u)
			}
		}
		parts = append(parts, part)
	}
	rank := n - len(parts)
	told(t, n, e, comps, parts, rank, rank == len(e))
}

// graphs calls do with all graphs of n vertices and so many edges, in every order and either way round.
func graphs(n, many int, do func(edges)) {
	e := make(edges, many)
	var fill func(int)
	fill = func(i int) {
		if i == many {
			do(e)
			return
		}
		for a := range n {
			for b := range n {
				e[i] = [2]int{a, b}
				fill(i + 1)
			}
		}
	}
	fill(0)
}

// small calls do with all graphs of few vertices and few edges.
func small(do func(int, edges)) {
	for i, most := range []int{4, 4, 4, 3, 3} {
		n := i + 1
		for many := range most + 1 {
			graphs(n, many, func(e edges) { do(n, e) })
		}
	}
}

// great calls do with graphs of more vertices, whose edges a rule scatters.
func great(do func(int, edges)) {
	seed := 1
	next := func(most int) int {
		seed = (seed*1103515245 + 12345) % (1 << 31)
		return (seed >> 8) % most
	}
	for _, n := range []int{5, 8, 20, 33, 63, api.MaxV} {
		for _, many := range []int{n / 4, n / 2, n - 1, n, 2 * n} {
			for range 5 {
				e := make(edges, many)
				for i := range e {
					e[i] = [2]int{next(n), next(n)}
				}
				do(n, e)
			}
		}
	}
}

func TestLikeSearch(t *testing.T) {
	look := func(n int, e edges) { bySearch(t, n, e) }
	small(look)
	great(look)
}

// apart holds the parts against all the vertices: each is in one part alone, parts and what is in them rise.
func apart(t *testing.T, n int, e edges) {
	t.Helper()
	comps, _ := join.Comps(n, e)
	parts, _ := join.Parts(n, e)
	found := make([]int, n)
	for i, p := range parts {
		if len(p) == 0 || i > 0 && parts[i-1][0] >= p[0] {
			t.Fatalf("Parts(%d, %v): %v", n, e, parts)
		}
		for j, v := range p {
			if j > 0 && p[j-1] >= v || v < 0 || v >= n || comps[v] != p[0] {
				t.Fatalf("Parts(%d, %v): %v, Comps: %v", n, e, parts, comps)
			}
			found[v]++
		}
	}
	if !slices.Equal(found, slices.Repeat([]int{1}, n)) {
		t.Fatalf("Parts(%d, %v): %v", n, e, parts)
	}
	for _, x := range e {
		if comps[x[0]] != comps[x[1]] {
			t.Fatalf("Comps(%d, %v): %v", n, e, comps)
		}
	}
}

// joins tells how many edges join two parts of the graph of the edges before them.
func joins(n int, e edges) int {
	count := 0
	for i, x := range e {
		comps, _ := join.Comps(n, e[:i])
		if comps[x[0]] != comps[x[1]] {
			count++
		}
	}
	return count
}

// everyEdgeJoins tells whether each edge joins two parts of the graph of all the others.
func everyEdgeJoins(n int, e edges) bool {
	for i, x := range e {
		comps, _ := join.Comps(n, slices.Concat(e[:i], e[i+1:]))
		if comps[x[0]] == comps[x[1]] {
			return false
		}
	}
	return true
}

func TestPartsAreApart(t *testing.T) {
	look := func(n int, e edges) { apart(t, n, e) }
	small(look)
	great(look)
}

func TestForestJoins(t *testing.T) {
	forests := 0
	look := func(n int, e edges) {
		forest := join.Forest(n, e)
		if forest {
			forests++
		}
		if count := joins(n, e); count != join.Rank(n, e) || forest != (count == len(e)) {
			t.Errorf("%d vertices, %v: %d edges join, Rank %d, Forest %v", n, e, count, join.Rank(n, e), forest)
		}
		if everyEdgeJoins(n, e) != forest {
			t.Errorf("%d vertices, %v: Forest %v", n, e, forest)
		}
	}
	small(look)
	great(look)
	if forests == 0 {
		t.Error("no forest")
	}
}

func TestOrderAndDirectionDoNotCount(t *testing.T) {
	great(func(n int, e edges) {
		turned := slices.Clone(e)
		slices.Reverse(turned)
		for i, x := range turned {
			turned[i] = [2]int{x[1], x[0]}
		}
		comps, _ := join.Comps(n, e)
		parts, _ := join.Parts(n, e)
		told(t, n, turned, comps, parts, join.Rank(n, e), join.Forest(n, e))
	})
}

// fill writes into a list, as far as its memory goes.
func fill(l []int) {
	l = l[:cap(l)]
	for i := range l {
		l[i] = -9
	}
}

func TestMemoryIsApart(t *testing.T) {
	small(func(n int, e edges) {
		// Room behind the edges: what is there isn't the calls' to write, either.
		room := append(slices.Clone(e), [2]int{7, 7})
		given := room[:len(e)]
		comps, _ := join.Comps(n, given)
		parts, _ := join.Parts(n, given)
		rank, forest := join.Rank(n, given), join.Forest(n, given)
		if !slices.Equal(given, e) || room[len(e)] != [2]int{7, 7} {
			t.Fatalf("%v was changed to %v", e, room)
		}
		for i := range parts {
			got, _ := join.Parts(n, given)
			fill(got[i])
			for j := range got {
				if j != i && !slices.Equal(got[j], parts[j]) {
					t.Fatalf("of %v: part %d was changed by part %d", e, j, i)
				}
			}
		}
		got, _ := join.Comps(n, given)
		fill(got)
		told(t, n, e, comps, parts, rank, forest)
	})
}
