package bases_test

import (
	"testing"

	"greenwood/api"
	"greenwood/set"
)

// circle tells the matroid of a circle of 64 vertices.
func circle() kind {
	m := kind{Tag: api.Graph, N: 64, A: 64}
	for v := range 64 {
		m.List = append(m.List, []int{v, (v + 1) % 64})
	}
	return m
}

// powers tells a matroid of 64 columns modulo a prime, of which so many are independent, whichever they are.
func powers(rows int) kind {
	m := kind{Tag: api.Linear, N: 64, A: rows, B: 67}
	for x := range 64 {
		col, power := make([]int, rows), 1
		for row := range col {
			col[row] = power
			power = power * x % m.B
		}
		m.List = append(m.List, col)
	}
	return m
}

// edges tells the matroid of a graph in which each two vertices have an edge, as far as these are 64 at most.
func edges(vertices int) kind {
	m := kind{Tag: api.Graph, A: vertices}
	for v := range vertices {
		for w := range v {
			if m.N < 64 {
				m.List = append(m.List, []int{w, v})
				m.N++
			}
		}
	}
	return m
}

// rises tells the sets of so many numbers each, one behind the other, of 64.
func rises(many, each int) lists {
	var l lists
	for k := range many {
		l = append(l, set.Minus(set.All(min(64, (k+1)*each)), set.All(min(64, k*each))))
	}
	return l
}

func TestLargeUniform(t *testing.T) {
	for _, a := range []int{1, 7, 8, 9, 21, 22, 31, 32, 33, 63, 64} {
		m := kind{N: 64, A: a}
		both(t, one{m, min(8, 64/a), min(never, (64+a-1)/a)})
		for k := 1; k <= 8; k++ {
			switch {
			case k*a < 64:
				packed(t, m, rises(k, a)...)
				notCovered(t, m, k, set.All(64)...)
			case k*a == 64:
				packed(t, m, rises(k, a)...)
				covered(t, m, rises(k, a)...)
			default:
				notPacked(t, m, k)
				covered(t, m, rises(k, a)...)
			}
		}
	}
	both(t, one{kind{N: 64}, 8, never})
	packed(t, kind{N: 64}, make(lists, 8)...)
	notCovered(t, kind{N: 64}, 8, set.All(64)...)
}

func TestLargeCircle(t *testing.T) {
	all := set.All(64)
	packed(t, circle(), all[:63])
	notCovered(t, circle(), 1, all...)
	notPacked(t, circle(), 2)
	covered(t, circle(), all[:63], []int{63})
	covered(t, circle(), all[:63], []int{63}, nil, nil, nil, nil, nil, nil)
	// Of the dual each element is a base.
	packed(t, dualOf(circle()), rises(8, 1)...)
	notCovered(t, dualOf(circle()), 8, all...)
}

func TestLargeTrees(t *testing.T) {
	// Of 28 edges four trees of eight vertices are made, which have them all.
	both(t, one{edges(8), 4, 4})
	// Nine vertices have 36 edges, four times eight and four more; of twelve vertices 64 edges, the last one joined by nine.
	both(t, one{edges(9), 4, 5})
	both(t, one{edges(12), 5, 6})
	// 60 edges between two vertices, and four in a row that each tree has.
	m := kind{Tag: api.Graph, N: 64, A: 6}
	for range 60 {
		m.List = append(m.List, []int{0, 1})
	}
	for v := 1; v < 5; v++ {
		m.List = append(m.List, []int{v, v + 1})
	}
	both(t, one{m, 1, never})
	packed(t, m, []int{0, 60, 61, 62, 63})
	for k := 2; k <= 8; k++ {
		notPacked(t, m, k, set.All(60)...)
		notCovered(t, m, k, set.All(60)...)
	}
}

func TestLargeColumns(t *testing.T) {
	for _, rows := range []int{8, 9, 21} {
		both(t, one{powers(rows), min(8, 64/rows), min(never, (64+rows-1)/rows)})
	}
	packed(t, powers(8), rises(8, 8)...)
	covered(t, powers(8), rises(8, 8)...)
	notPacked(t, powers(9), 8)
	covered(t, powers(9), rises(8, 9)...)
	packed(t, powers(7), rises(8, 7)...)
	notCovered(t, powers(7), 8, set.All(64)...)
}

func TestLargeParts(t *testing.T) {
	// Eight rows of eight: each base has one of each row.
	rows := make([]int, 64)
	for x := range rows {
		rows[x] = x / 8
	}
	var l lists
	for k := range 8 {
		var s []int
		for x := k; x < 64; x += 8 {
			s = append(s, x)
		}
		l = append(l, s)
	}
	both(t, one{parts(rows...), 8, 8})
	packed(t, parts(rows...), l...)
	covered(t, parts(rows...), l...)
	packed(t, parts(rows...), l[:7]...)
	notCovered(t, parts(rows...), 7, set.All(64)...)
	// One row has nine, and the one ahead seven.
	rows[7] = 1
	both(t, one{parts(rows...), 7, never})
	notPacked(t, parts(rows...), 8, set.Minus(set.All(16), set.All(7))...)
	notCovered(t, parts(rows...), 8, set.Minus(set.All(16), set.All(7))...)
}

func TestLargeSides(t *testing.T) {
	// On the left each may go with two that are one behind the other; of these there are so many, and one.
	sides := func(right int) kind {
		m := kind{Tag: api.Trans, N: 64, A: right + 1}
		for x := range 64 {
			m.List = append(m.List, []int{x % right, x%right + 1})
		}
		return m
	}
	// A base has eight elements, one for each on the right, and eight bases have as many as there are.
	both(t, one{sides(7), 8, 8})
	both(t, one{sides(6), 8, never})
	both(t, one{sides(20), 3, 4})
}

func TestLargeDeep(t *testing.T) {
	// Four deep: of 64 edges of a circle 40 at most, what is left when so many others are.
	few := kind{Tag: api.Trunc, N: 64, A: 40, Inner: []kind{circle()}}
	most := kind{Tag: api.Sum, N: 64, Inner: []kind{dualOf(few)}}
	both(t, one{few, 1, 2})
	both(t, one{most, 2, 3})
	packed(t, most, rises(2, 24)...)
	covered(t, most, rises(3, 24)...)
	// Of eight, one each, and two, and up to eight: the last ones are in each base.
	eight := kind{Tag: api.Sum, N: 64}
	for k := range 8 {
		eight.Inner = append(eight.Inner, dualOf(dualOf(kind{N: 8, A: k + 1})))
	}
	both(t, one{eight, 1, 8})
	eight.Inner[7] = kind{N: 8}
	both(t, one{eight, 1, never})
	for k := range eight.Inner {
		eight.Inner[k] = dualOf(dualOf(kind{N: 8, A: 1 + k%4}))
	}
	both(t, one{eight, 2, 8})
}
