package split_test

import (
	"slices"
	"testing"

	"greenwood/api"
	"greenwood/set"
	"greenwood/split"
)

// circle tells the matroid of a circle of 64 vertices.
func circle() kind {
	m := kind{Tag: api.Graph, N: 64, A: 64}
	for v := range 64 {
		m.List = append(m.List, []int{v, (v + 1) % 64})
	}
	return m
}

// powers tells a matroid of 64 columns modulo a prime, of which so many are independent, whichever they are.
func powers(rows int) kind {
	m := kind{Tag: api.Linear, N: 64, A: rows, B: 67}
	for x := range 64 {
		col, power := make([]int, rows), 1
		for row := range col {
			col[row] = power
			power = power * x % m.B
		}
		m.List = append(m.List, col)
	}
	return m
}

// weightsOf64 tells weights of 64 elements: all the same, some the same, no two the same, and at the limits.
func weightsOf64() lists {
	const most = 1 << 31
	l := lists{slices.Repeat([]int{-3}, 64), slices.Repeat([]int{most}, 64), slices.Repeat([]int{most, -most}, 32)}
	few, signs, others := make([]int, 64), make([]int, 64), make([]int, 64)
	for x := range 64 {
		few[x], signs[x] = x*x%7, (x*37+11)%64-30
		others[x] = (x*x*1000003+x*7919)%(2*most+1) - most
	}
	return append(l, few, signs, others)
}

// tellsEach holds for all of these weights that are not all the same what is told of two matroids, whichever is first: a
// set of each size up to so many.
func tellsEach(t *testing.T, a, b kind, many int) {
	t.Helper()
	for _, w := range weightsOf64()[2:] {
		there, back := provedUpTo(t, a, b, w, many), provedUpTo(t, b, a, w, many)
		at, other := split.Best(there, w), split.Best(back, w)
		if at != other {
			t.Errorf("the set in place %d is the heaviest one, and changed about that in place %d", at, other)
		}
	}
}

func TestLargeUniform(t *testing.T) {
	for _, w := range weightsOf64() {
		for _, k := range []int{0, 1, 31, 32, 63, 64} {
			m := kind{N: 64, A: k}
			likeGreedy(t, m, m, m, w, k)
			likeGreedy(t, m, free(64), m, w, k)
			likeGreedy(t, free(64), m, m, w, k)
		}
	}
}

func TestLargeCircle(t *testing.T) {
	cuts := dualOf(circle())
	for _, w := range weightsOf64() {
		likeGreedy(t, circle(), free(64), circle(), w, 63)
		likeGreedy(t, circle(), circle(), circle(), w, 63)
		likeGreedy(t, circle(), cuts, kind{N: 64, A: 1}, w, 1)
		likeGreedy(t, cuts, circle(), kind{N: 64, A: 1}, w, 1)
	}
	tellsEach(t, circle(), kind{Tag: api.Sum, N: 64, Inner: []kind{{N: 30, A: 7}, {N: 34, A: 34}}}, 41)
}

func TestLargeLongWay(t *testing.T) {
	// In a row each two neighbours are one's pair, or the other one's. Those between, the first 31, are heavier: they are taken
	// first, and then only a way along all 63 makes one more of them. The last element is independent in neither.
	a, b, w := make([]int, 64), make([]int, 64), make([]int, 64)
	for x := range 31 {
		a[x], b[x], w[x] = x+1, x, 2
		a[31+x], b[31+x], w[31+x] = x, x, 1
	}
	a[62], b[62], w[62] = 31, 31, 1
	a[63], b[63], w[63] = 32, 32, 9
	first, second := classes(a...), classes(b...)
	first.List[1][32], second.List[1][32] = 0, 0
	late := set.All(63)[31:]
	l := proved(t, first, second, w)
	if len(l) != 33 || !slices.Equal(l[31].S, set.All(31)) || !slices.Equal(l[32].S, late) || split.Best(l, w) != 31 {
		t.Errorf("%d sets are told: of 31 %v, of 32 %v; the heaviest one is in place %d", len(l), l[31].S, l[len(l)-1].S, split.Best(l, w))
	}
}

func TestLargeSquare(t *testing.T) {
	// Eight and eight, each with each.
	var each [][2]int
	for x := range 64 {
		each = append(each, [2]int{x / 8, x % 8})
	}
	row, column := pairs(each...)
	tellsEach(t, row, column, 8)
	// The two that are farther from each other go together for less: each is best off with the own one.
	w := make([]int, 64)
	var diagonal []int
	for x := range 64 {
		far := x/8 - x%8
		w[x] = -far * far
		if far == 0 {
			diagonal = append(diagonal, x)
		}
	}
	for k, s := range proved(t, row, column, w) {
		if !slices.Equal(s.S, diagonal[:k]) {
			t.Errorf("%v is told, want %v", s.S, diagonal[:k])
		}
	}
	// What each two come to is the product of their places.
	for x := range 64 {
		w[x] = (x/8 + 1) * (x%8 + 1)
	}
	for k, s := range proved(t, row, column, w) {
		if !slices.Equal(s.S, diagonal[8-k:]) {
			t.Errorf("%v is told, want %v", s.S, diagonal[8-k:])
		}
	}
}

func TestLargeColours(t *testing.T) {
	// Forests of a graph, of which no three edges are of one colour, or such that two of each are left.
	grid := kind{Tag: api.Graph, N: 64, A: 33}
	colours := kind{Tag: api.Part, N: 64, A: 16, List: lists{nil, slices.Repeat([]int{2}, 16)}}
	for x := range 64 {
		grid.List = append(grid.List, []int{x % 33, (x*x + 5) % 33})
		colours.List[0] = append(colours.List[0], x/4)
	}
	tellsEach(t, grid, colours, 31)
	tellsEach(t, grid, dualOf(colours), 31)
	tellsEach(t, dualOf(grid), colours, 32)
}

func TestLargeSides(t *testing.T) {
	// On the left each may go with two that are one behind the other; of these there are 32 in the one, 16 in the other one.
	sides := func(right int) kind {
		m := kind{Tag: api.Trans, N: 64, A: right + 1}
		for x := range 64 {
			m.List = append(m.List, []int{x % right, x%right + 1})
		}
		return m
	}
	tellsEach(t, sides(32), sides(16), 17)
	tellsEach(t, sides(20), circle(), 21)
}

func TestLargeColumns(t *testing.T) {
	for _, w := range weightsOf64() {
		likeGreedy(t, powers(12), free(64), kind{N: 64, A: 12}, w, 12)
		likeGreedy(t, free(64), powers(12), kind{N: 64, A: 12}, w, 12)
		likeGreedy(t, powers(0), powers(12), kind{N: 64}, w, 0)
	}
	tellsEach(t, powers(5), kind{Tag: api.Part, N: 64, A: 2, List: lists{slices.Repeat([]int{0, 1}, 32), {1, 3}}}, 4)
}

func TestLargeDeep(t *testing.T) {
	// Four deep: of 64 edges of a circle 40 at most, what is left when so many others are.
	few := kind{Tag: api.Trunc, N: 64, A: 40, Inner: []kind{circle()}}
	most := kind{Tag: api.Sum, N: 64, Inner: []kind{dualOf(few)}}
	for _, w := range weightsOf64() {
		likeGreedy(t, few, most, kind{N: 64, A: 24}, w, 24)
		likeGreedy(t, most, few, kind{N: 64, A: 24}, w, 24)
	}
	eight := kind{Tag: api.Sum, N: 64}
	for k := range 8 {
		eight.Inner = append(eight.Inner, dualOf(dualOf(kind{N: 8, A: k + 1})))
	}
	tellsEach(t, eight, few, 36)
}
