package union_test

import (
	"slices"
	"testing"

	"greenwood/api"
	"greenwood/indep"
	"greenwood/reach"
	"greenwood/set"
	"greenwood/union"
)

// circle tells the matroid of a circle of 64 vertices.
func circle() kind {
	m := kind{Tag: api.Graph, N: 64, A: 64}
	for v := range 64 {
		m.List = append(m.List, []int{v, (v + 1) % 64})
	}
	return m
}

// powers tells a matroid of 64 columns modulo a prime, of which so many are independent, whichever they are.
func powers(rows int) kind {
	m := kind{Tag: api.Linear, N: 64, A: rows, B: 67}
	for x := range 64 {
		col, power := make([]int, rows), 1
		for row := range col {
			col[row] = power
			power = power * x % m.B
		}
		m.List = append(m.List, col)
	}
	return m
}

// edges tells the matroid of a graph in which each two vertices have an edge, as far as these are 64 at most.
func edges(vertices int) kind {
	m := kind{Tag: api.Graph, A: vertices}
	for v := range vertices {
		for w := range v {
			if m.N < 64 {
				m.List = append(m.List, []int{w, v})
				m.N++
			}
		}
	}
	return m
}

// take holds that so many elements have a class, and that none are more, in whatever order the matroids are.
func take(t *testing.T, l []kind, many int) {
	t.Helper()
	for _, l := range [][]kind{l, slices.Concat(l[len(l)/2:], l[:len(l)/2])} {
		of, u, e := union.Max(l)
		if left := union.Class(of, -1); e != api.OK || len(of) != l[0].N || len(left) != l[0].N-many || !set.Sub(left, u) {
			t.Errorf("Max of %d matroids tells %v, %v, %d, want %d elements with a class", len(l), of, u, e, many)
		}
		proves(t, l, of, u)
	}
}

func TestLargeUniform(t *testing.T) {
	for _, a := range []int{0, 1, 7, 8, 21, 22, 31, 32, 63, 64} {
		for _, many := range []int{1, 2, 3, 8} {
			l := times(many, kind{N: 64, A: a})
			of, u := make([]int, 64), set.All(64)
			for x := range of {
				of[x] = -1
				if x < a*many {
					of[x] = x / a
				}
			}
			if a*many >= 64 {
				u = nil
			}
			tells(t, l, of, u)
			bounds(t, l, nil, 64)
			bounds(t, l, set.All(64), a*many)
		}
	}
}

func TestLargeCircle(t *testing.T) {
	all := set.All(64)
	for _, m := range []kind{circle(), {Tag: api.Sum, N: 64, Inner: []kind{circle()}}, dualOf(dualOf(circle()))} {
		tells(t, []kind{m}, inClass(64, all[:63], 0, -1), all)
		tells(t, []kind{m, m}, inClass(64, all[:63], 0, 1), nil)
		tells(t, []kind{m, free(64)}, inClass(64, all[:63], 0, 1), nil)
		tells(t, []kind{m, dualOf(circle())}, inClass(64, all[:63], 0, 1), nil)
		tells(t, []kind{dualOf(circle()), m}, inClass(64, all[:1], 0, 1), nil)
		of := slices.Concat([]int{0, 1, 2, 3, 4}, slices.Repeat([]int{-1}, 59))
		tells(t, times(5, dualOf(m)), of, all)
	}
}

func TestLargeLongWay(t *testing.T) {
	// All 64 are on the last way, and the point that it ends at; or there is none, as the last element has no room.
	l := late(32)
	tells(t, row(l, false), inClass(64, set.All(32), 1, 0), nil)
	of := inClass(64, set.All(32), 0, 1)
	of[63] = -1
	tells(t, row(l, true), of, set.All(64))
	// A third one has room for that.
	only := kind{Tag: api.Part, N: 64, A: 2, List: lists{inClass(64, []int{31}, 1, 0), {0, 1}}}
	of = inClass(64, set.All(32), 1, 0)
	of[31] = 2
	tells(t, append(row(l, true), only), of, nil)
}

func TestLargeSeveralLongWays(t *testing.T) {
	// Rows of 4, 8, 10, 12, 14 and 16 elements, one behind the other.
	var a, b []kind
	var of []int
	for _, many := range []int{2, 4, 5, 6, 7, 8} {
		l := row(late(many), false)
		a, b = append(a, l[0]), append(b, l[1])
		of = append(of, inClass(2*many, set.All(many), 1, 0)...)
	}
	tells(t, []kind{{Tag: api.Sum, N: 64, Inner: a}, {Tag: api.Sum, N: 64, Inner: b}}, of, nil)
}

func TestLargeTrees(t *testing.T) {
	// Eight vertices have 28 edges: of these four trees are made, but no more.
	for many := 1; many <= 8; many++ {
		take(t, times(many, edges(8)), min(28, 7*many))
		take(t, times(many, edges(12)), min(64, 11*many))
	}
	// A tree, and as few others as there may be, such that all are left that a base needs.
	take(t, []kind{edges(12), dualOf(edges(12))}, 64)
	take(t, []kind{edges(12), {Tag: api.Trunc, N: 64, A: 9, Inner: []kind{edges(12)}}, {N: 64, A: 5}}, 25)
	// 60 edges between two vertices, and four in a row that any class takes.
	m := kind{Tag: api.Graph, N: 64, A: 6, List: slices.Repeat(lists{{0, 1}}, 60)}
	for v := 1; v < 5; v++ {
		m.List = append(m.List, []int{v, v + 1})
	}
	of := slices.Concat([]int{0, 1, 2, 3, 4, 5, 6, 7}, slices.Repeat([]int{-1}, 52), []int{0, 0, 0, 0})
	tells(t, times(8, m), of, set.All(60))
}

func TestLargeColumns(t *testing.T) {
	for _, many := range []int{1, 2, 5, 8} {
		take(t, times(many, powers(8)), 8*many)
		take(t, times(many, powers(7)), 7*many)
	}
	take(t, times(2, powers(40)), 64)
	take(t, []kind{powers(20), dualOf(powers(20))}, 64)
	take(t, []kind{powers(20), powers(0), powers(31)}, 51)
	take(t, []kind{dualOf(dualOf(powers(20))), powers(20), dualOf(powers(50))}, 54)
}

func TestLargeParts(t *testing.T) {
	// Eight rows and eight columns; of each one is taken.
	rows, columns := make([]int, 64), make([]int, 64)
	for x := range 64 {
		rows[x], columns[x] = x/8, x%8
	}
	for many := 1; many <= 4; many++ {
		take(t, times(2*many, parts(rows...)), 16*many)
		take(t, slices.Repeat([]kind{parts(rows...), parts(columns...)}, many), 16*many)
	}
	of := make([]int, 64)
	for x := range of {
		of[x] = x % 8
	}
	tells(t, times(8, parts(rows...)), of, nil)
	tells(t, times(8, parts(columns...)), rows, nil)
}

func TestLargeSides(t *testing.T) {
	// On the left each may go with two that are one behind the other; of these there are so many, and one.
	sides := func(right int) kind {
		m := kind{Tag: api.Trans, N: 64, A: right + 1}
		for x := range 64 {
			m.List = append(m.List, []int{x % right, x%right + 1})
		}
		return m
	}
	take(t, times(2, sides(20)), 42)
	take(t, []kind{sides(20), sides(16), sides(9)}, 48)
	take(t, []kind{sides(20), dualOf(sides(20))}, 64)
	take(t, times(8, sides(7)), 64)
	take(t, times(8, sides(6)), 56)
}

func TestLargeDeep(t *testing.T) {
	// Four deep: of 64 edges of a circle 40 at most, what is left when so many others are.
	few := kind{Tag: api.Trunc, N: 64, A: 40, Inner: []kind{circle()}}
	most := kind{Tag: api.Sum, N: 64, Inner: []kind{dualOf(few)}}
	tells(t, []kind{few, most}, inClass(64, set.All(40), 0, 1), nil)
	tells(t, []kind{most, few}, inClass(64, set.All(24), 0, 1), nil)
	tells(t, []kind{most}, inClass(64, set.All(24), 0, -1), set.All(64))
	take(t, times(2, most), 48)
	eight := kind{Tag: api.Sum, N: 64}
	for k := range 8 {
		eight.Inner = append(eight.Inner, dualOf(dualOf(kind{N: 8, A: k + 1})))
	}
	take(t, times(1, eight), 36)
	take(t, times(2, eight), 2+4+6+5*8)
	take(t, times(8, eight), 64)
	take(t, []kind{eight, most}, 60)
	take(t, []kind{eight, {N: 64, A: 5}, eight}, 57)
}

func TestLargeUnlike(t *testing.T) {
	colours := kind{Tag: api.Part, N: 64, A: 4, List: lists{nil, {1, 0, 3, 2}}}
	for x := range 64 {
		colours.List[0] = append(colours.List[0], x%4)
	}
	l := []kind{colours, {N: 64, A: 3}, edges(12), powers(9), dualOf(circle()), {N: 64}, {Tag: api.Trunc, N: 64, A: 5, Inner: []kind{circle()}}, colours}
	take(t, l, 6+3+11+9+1+5+6)
	take(t, append(l[1:], circle()), 64)
}

// byAllArcs tells what is told of several matroids, out of a digraph in which no arc is left out.
func byAllArcs(l []kind) ([]int, []int) {
	n := l[0].N
	of := slices.Repeat([]int{-1}, n)
	for {
		adj := make(lists, n+len(l))
		for x := range n {
			for to := range adj {
				// A matroid's point stands for room beside all of its class.
				k, gone := to-n, []int(nil)
				if to < n {
					k, gone = of[to], []int{to}
				}
				if k >= 0 && k != of[x] && indep.Indep(l[k], set.Union(set.Minus(union.Class(of, k), gone), []int{x})) {
					adj[x] = append(adj[x], to)
				}
			}
		}
		left := union.Class(of, -1)
		way, ok := reach.Path(adj, left, set.All(n + len(l))[n:])
		if !ok {
			return of, reach.From(adj, left)
		}
		had := append(slices.Clone(of), set.All(len(l))...)
		for i, next := range way[1:] {
			of[way[i]] = had[next]
		}
	}
}

func TestByAllArcs(t *testing.T) {
	seed := 1
	next := func(most int) int {
		seed = (seed*1103515245 + 12345) % (1 << 31)
		return seed * most >> 31
	}
	for at := range 300 {
		n := 8 + at%17
		var l []kind
		for range 1 + next(5) {
			m := kind{Tag: api.Graph, N: n, A: 2 + next(6)}
			part := kind{Tag: api.Part, N: n, A: m.A, List: lists{nil, nil}}
			for range n {
				m.List = append(m.List, []int{next(m.A), next(m.A)})
				part.List[0] = append(part.List[0], next(m.A))
			}
			for range m.A {
				part.List[1] = append(part.List[1], next(3))
			}
			l = append(l, [...]kind{m, part, {Tag: api.Trunc, N: n, A: next(4), Inner: []kind{m}}}[next(3)])
		}
		if at%3 == 0 {
			l = append(l, l[0], dualOf(l[0]))
		}
		of, u := byAllArcs(l)
		tells(t, l, of, u)
	}
}
