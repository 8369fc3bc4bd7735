package span_test

import (
	"slices"
	"testing"

	"greenwood/api"
	"greenwood/set"
)

// circle tells the matroid of a circle of 64 vertices.
func circle() kind {
	m := kind{Tag: api.Graph, N: 64, A: 64}
	for v := range 64 {
		m.List = append(m.List, []int{v, (v + 1) % 64})
	}
	return m
}

func TestLargeCircle(t *testing.T) {
	all := set.All(64)
	for _, m := range []kind{circle(), wrapped(circle(), api.Dual, 2), wrapped(circle(), api.Sum, 3), {N: 64, A: 63}} {
		bases(t, m, all, all[:63], all)
		bases(t, m, all[1:], all[1:], all)
		bases(t, m, all[1:63], all[1:63], all[1:63])
		bases(t, m, nil, nil, nil)
		circuit(t, m, all[:63], 63, all...)
		circuit(t, m, all[1:], 0, all...)
		circuit(t, m, set.Minus(all, []int{31}), 31, all...)
		noCircuit(t, m, all[:62], 62)
		noCircuit(t, m, all[:63], 64)
		noCircuit(t, m, all, 64)
		ranks(t, m, 63)
	}
	cuts := wrapped(circle(), api.Dual, 3)
	bases(t, cuts, all, all[:1], all)
	bases(t, cuts, all[63:], all[63:], all)
	circuit(t, cuts, all[63:], 7, 7, 63)
	ranks(t, cuts, 1)
}

func TestLargeOthers(t *testing.T) {
	all := set.All(64)
	halves := kind{Tag: api.Part, N: 64, A: 2, List: lists{slices.Repeat([]int{0, 1}, 32), {3, 32}}}
	base := []int{0, 2, 4}
	for x := 1; x < 64; x += 2 {
		base = append(base, x)
	}
	bases(t, halves, all, set.Sort(base), all)
	circuit(t, halves, []int{0, 1, 10, 11, 20}, 62, 0, 10, 20, 62)
	ranks(t, halves, 35)
	stairs := kind{Tag: api.Trans, N: 64, A: 64}
	for x := range 64 {
		stairs.List = append(stairs.List, set.All(max(1, x)))
	}
	bases(t, stairs, all, set.Minus(all, []int{1}), all)
	bases(t, stairs, all[:5], []int{0, 2, 3, 4}, all[:5])
	circuit(t, stairs, []int{0, 63}, 1, 0, 1)
	ranks(t, stairs, 63)
	columns := kind{Tag: api.Linear, N: 64, A: 64, B: 1<<31 - 1}
	for x := range 64 {
		column := make([]int, 64)
		column[x], column[63] = 1, 1
		columns.List = append(columns.List, column)
	}
	columns.List[62] = slices.Clone(columns.List[61])
	bases(t, columns, all, set.Minus(all, []int{62}), all)
	circuit(t, columns, set.Minus(all, []int{61}), 61, 61, 62)
	ranks(t, wrapped(columns, api.Dual, 3), 1)
	ranks(t, kind{N: 64, A: 64}, 64)
	circuit(t, kind{N: 64}, nil, 63, 63)
	bases(t, kind{N: 64}, all, nil, all)
}
