package greedy_test

import (
	"slices"
	"testing"

	"greenwood/api"
	"greenwood/set"
)

// circle tells the matroid of a circle of 64 vertices.
func circle() kind {
	m := kind{Tag: api.Graph, N: 64, A: 64}
	for v := range 64 {
		m.List = append(m.List, []int{v, (v + 1) % 64})
	}
	return m
}

func TestLargeUniform(t *testing.T) {
	all := set.All(64)
	falling := make([]int, 64)
	for x := range falling {
		falling[x] = 31 - x
	}
	for a := range 65 {
		m := kind{N: 64, A: a}
		takes(t, m, all, 64, all[64-a:]...)
		takes(t, m, falling, greatest, all[:a]...)
		takes(t, m, falling, 40, all[:min(a, 40)]...)
		best(t, m, all, all[max(1, 64-a):]...)
		best(t, m, falling, all[:min(a, 31)]...)
	}
	nothing(t, kind{N: 65, A: 64}, make([]int, 65))
	nothing(t, kind{N: 64, A: 64}, make([]int, 65))
	nothing(t, kind{N: 64, A: 64}, make([]int, 63))
	heaviest := slices.Repeat([]int{heavy}, 64)
	best(t, kind{N: 64, A: 64}, heaviest, all...)
	weighs(t, heaviest, all, 64*heavy)
	weighs(t, slices.Repeat([]int{-heavy}, 64), all, -64*heavy)
}

func TestLargeCircle(t *testing.T) {
	all := set.All(64)
	sum := kind{Tag: api.Sum, N: 64, Inner: []kind{circle()}}
	twice := kind{Tag: api.Dual, N: 64, Inner: []kind{{Tag: api.Dual, N: 64, Inner: []kind{circle()}}}}
	for _, m := range []kind{circle(), sum, twice, {N: 64, A: 63}} {
		for _, lightest := range all {
			w := slices.Repeat([]int{2}, 64)
			w[lightest] = 1
			takes(t, m, w, 64, set.Minus(all, []int{lightest})...)
			best(t, m, w, set.Minus(all, []int{lightest})...)
		}
		takes(t, m, make([]int, 64), 64, all[:63]...)
		takes(t, m, make([]int, 64), 62, all[:62]...)
		best(t, m, make([]int, 64))
	}
	cuts := kind{Tag: api.Dual, N: 64, Inner: []kind{circle()}}
	takes(t, cuts, all, 64, 63)
	best(t, cuts, make([]int, 64))
}

func TestLargeOthers(t *testing.T) {
	w := make([]int, 64)
	for x := range w {
		w[x] = x*37%64 - 16
	}
	// The three heaviest even ones, and all odd ones; of these the heaviest ones are above 0.
	halves := kind{Tag: api.Part, N: 64, A: 2, List: lists{slices.Repeat([]int{0, 1}, 32), {3, 32}}}
	var even, odd, above []int
	for x := range 64 {
		switch {
		case x%2 == 1:
			odd = append(odd, x)
			if w[x] > 0 {
				above = append(above, x)
			}
		case w[x] >= 64-16-6:
			even = append(even, x)
		}
	}
	takes(t, halves, w, 64, set.Union(even, odd)...)
	best(t, halves, w, set.Union(even, above)...)
	// Each goes with all ahead of it: the first two with the same one.
	stairs := kind{Tag: api.Trans, N: 64, A: 64}
	for x := range 64 {
		stairs.List = append(stairs.List, set.All(max(1, x)))
	}
	takes(t, stairs, set.All(64), 64, set.All(64)[1:]...)
	takes(t, stairs, w, 64, set.Minus(set.All(64), []int{0})...)
	// Columns of one 1 each, and the last one of them all.
	columns := kind{Tag: api.Linear, N: 64, A: 63, B: 1<<31 - 1}
	for x := range 64 {
		column := make([]int, 63)
		for row := range column {
			if row == x || x == 63 {
				column[row] = 1
			}
		}
		columns.List = append(columns.List, column)
	}
	takes(t, columns, w, 64, set.Minus(set.All(64), []int{slices.Index(w, -16)})...)
	takes(t, columns, make([]int, 64), 64, set.All(63)...)
}
