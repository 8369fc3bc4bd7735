package span_test

import (
	"slices"
	"testing"

	"greenwood/api"
	"greenwood/set"
	"greenwood/span"
)

type (
	kind  = api.Matroid
	lists = [][]int
)

// graph tells the matroid of a circle of three, an edge of one vertex alone, and an edge twice.
func graph() kind {
	return kind{Tag: api.Graph, N: 6, A: 4, List: lists{{0, 1}, {1, 2}, {2, 0}, {1, 1}, {2, 3}, {3, 2}}}
}

// kinds tells a matroid of each tag, each time in new memory.
func kinds() []kind {
	return []kind{
		{N: 4, A: 2},
		graph(),
		{Tag: api.Part, N: 5, A: 3, List: lists{{0, 2, 0, 1, 2}, {1, 0, 64}}},
		{Tag: api.Trans, N: 5, A: 3, List: lists{{0}, {0, 1}, {}, {1}, {0, 1}}},
		{Tag: api.Linear, N: 5, A: 2, B: 5, List: lists{{1, 2}, {2, 4}, {0, 0}, {0, 1}, {1, 3}}},
		{Tag: api.Restrict, N: 4, List: lists{{0, 2, 3, 5}}, Inner: []kind{graph()}},
		{Tag: api.Contract, N: 5, List: lists{{1}}, Inner: []kind{graph()}},
		{Tag: api.Trunc, N: 6, A: 2, Inner: []kind{graph()}},
		{Tag: api.Dual, N: 6, Inner: []kind{graph()}},
		{Tag: api.Sum, N: 10, Inner: []kind{graph(), {N: 4, A: 2}}},
	}
}

// bare tells matroids of no elements.
func bare() []kind {
	none := []kind{{}}
	return []kind{
		{}, {Tag: api.Graph, A: 3}, {Tag: api.Part, A: 1, List: lists{{}, {2}}}, {Tag: api.Trans, A: 2}, {Tag: api.Linear, A: 2, B: 3},
		{Tag: api.Restrict, List: lists{{}}, Inner: []kind{graph()}}, {Tag: api.Contract, List: lists{{0, 1, 2, 3, 4, 5}}, Inner: []kind{graph()}},
		{Tag: api.Trunc, A: 2, Inner: none}, {Tag: api.Dual, Inner: none}, {Tag: api.Sum, Inner: []kind{{}, {}}},
	}
}

// flat tells matroids of some elements, and of rank 0.
func flat() []kind {
	return []kind{
		{N: 3}, {Tag: api.Graph, N: 2, A: 2, List: lists{{1, 1}, {0, 0}}}, {Tag: api.Part, N: 2, A: 2, List: lists{{1, 1}, {3, 0}}},
		{Tag: api.Trans, N: 2, A: 1, List: lists{{}, {}}}, {Tag: api.Trans, N: 1, List: lists{{}}}, {Tag: api.Linear, N: 2, A: 2, B: 7, List: lists{{0, 0}, {0, 0}}},
		{Tag: api.Linear, N: 1, B: 2, List: lists{{}}}, {Tag: api.Restrict, N: 1, List: lists{{3}}, Inner: []kind{graph()}},
		{Tag: api.Contract, N: 3, List: lists{{0, 1, 4}}, Inner: []kind{graph()}}, {Tag: api.Trunc, N: 6, Inner: []kind{graph()}},
		{Tag: api.Dual, N: 3, Inner: []kind{{N: 3, A: 3}}}, {Tag: api.Sum, N: 4, Inner: []kind{{N: 3}, {}, {N: 1}}},
	}
}

// bases holds what is told of a set of elements against its base, and what it spans.
func bases(t *testing.T, m kind, s, base, spanned []int) {
	t.Helper()
	if got := span.Base(m, s); !slices.Equal(got, base) {
		t.Errorf("Base(%v, %v): %v, want %v", m, s, got, base)
	}
	if got := span.Span(m, s); !slices.Equal(got, spanned) {
		t.Errorf("Span(%v, %v): %v, want %v", m, s, got, spanned)
	}
}

// circuit holds what is told of a set and an element against their circuit.
func circuit(t *testing.T, m kind, s []int, x int, want ...int) {
	t.Helper()
	if got, ok := span.Circuit(m, s, x); !ok || !slices.Equal(got, want) {
		t.Errorf("Circuit(%v, %v, %d): %v, %v, want %v", m, s, x, got, ok, want)
	}
}

// noCircuit holds that of these nothing is told, and false.
func noCircuit(t *testing.T, m kind, s []int, x int) {
	t.Helper()
	if got, ok := span.Circuit(m, s, x); ok || len(got) > 0 {
		t.Errorf("Circuit(%v, %v, %d): %v, %v", m, s, x, got, ok)
	}
}

// ranks holds the rank of all elements.
func ranks(t *testing.T, m kind, want int) {
	t.Helper()
	if got := span.All(m); got != want {
		t.Errorf("All(%v): %d, want %d", m, got, want)
	}
}

func TestExample(t *testing.T) {
	m := kind{Tag: api.Graph, N: 3, A: 3, List: lists{{0, 1}, {1, 2}, {2, 0}}}
	bases(t, m, []int{0, 1, 2}, []int{0, 1}, []int{0, 1, 2})
	bases(t, m, []int{0, 1}, []int{0, 1}, []int{0, 1, 2})
	circuit(t, m, []int{0, 1}, 2, 0, 1, 2)
	ranks(t, m, 2)
}

func TestEachTag(t *testing.T) {
	want := []struct{ base, ofNone []int }{
		{[]int{0, 1}, nil},
		{[]int{0, 1, 4}, []int{3}},
		{[]int{0, 1, 4}, []int{3}},
		{[]int{0, 1}, []int{2}},
		{[]int{0, 3}, []int{2}},
		{[]int{0, 1, 3}, []int{2}},
		{[]int{0, 3}, []int{2}},
		{[]int{0, 1}, []int{3}},
		{[]int{0, 3, 4}, nil},
		{[]int{0, 1, 4, 6, 7}, []int{3}},
	}
	for tag, m := range kinds() {
		if m.Tag != tag {
			t.Fatalf("kind %d has tag %d", tag, m.Tag)
		}
		all := set.All(m.N)
		bases(t, m, all, want[tag].base, all)
		bases(t, m, want[tag].base, want[tag].base, all)
		bases(t, m, nil, nil, want[tag].ofNone)
		bases(t, m, []int{}, nil, want[tag].ofNone)
		bases(t, m, want[tag].ofNone, nil, want[tag].ofNone)
		ranks(t, m, len(want[tag].base))
	}
}

func TestCircuitOfEachTag(t *testing.T) {
	want := []struct {
		s    []int
		x    int
		want []int
	}{
		{[]int{0, 2}, 3, []int{0, 2, 3}},
		{[]int{0, 1, 4}, 2, []int{0, 1, 2}},
		{[]int{0, 1, 4}, 2, []int{0, 2}},
		{[]int{0, 1}, 3, []int{0, 1, 3}},
		{[]int{0, 3}, 1, []int{0, 1}},
		{[]int{0, 1, 3}, 2, []int{2}},
		{[]int{0, 4}, 1, []int{0, 1}},
		{[]int{0, 4}, 1, []int{0, 1, 4}},
		{[]int{0, 3, 4}, 1, []int{0, 1}},
		{[]int{0, 1, 4, 6, 9}, 8, []int{6, 8, 9}},
	}
	for tag, m := range kinds() {
		c := want[tag]
		circuit(t, m, c.s, c.x, c.want...)
		noCircuit(t, m, c.s, c.s[0])
		noCircuit(t, m, c.s[:1], c.s[1])
		with := set.Union(c.s, []int{c.x})
		for x := range m.N {
			noCircuit(t, m, with, x)
		}
	}
}

func TestGraph(t *testing.T) {
	m := graph()
	// An edge of one vertex alone.
	bases(t, m, []int{3}, nil, []int{3})
	bases(t, m, []int{3, 4}, []int{4}, []int{3, 4, 5})
	circuit(t, m, nil, 3, 3)
	circuit(t, m, []int{0, 1, 4}, 3, 3)
	// An edge twice.
	bases(t, m, []int{4, 5}, []int{4}, []int{3, 4, 5})
	bases(t, m, []int{5}, []int{5}, []int{3, 4, 5})
	circuit(t, m, []int{4}, 5, 4, 5)
	circuit(t, m, []int{0, 2, 5}, 4, 4, 5)
	// A circle.
	bases(t, m, []int{0, 1, 2}, []int{0, 1}, []int{0, 1, 2, 3})
	bases(t, m, []int{1, 2}, []int{1, 2}, []int{0, 1, 2, 3})
	bases(t, m, []int{2, 3, 4, 5}, []int{2, 4}, []int{2, 3, 4, 5})
	bases(t, m, []int{0}, []int{0}, []int{0, 3})
	circuit(t, m, []int{1, 2}, 0, 0, 1, 2)
	circuit(t, m, []int{0, 2, 5}, 1, 0, 1, 2)
	// Circles of three and of four edges, by the same one.
	of := kind{Tag: api.Graph, N: 6, A: 5, List: lists{{0, 1}, {2, 1}, {2, 3}, {0, 3}, {1, 3}, {4, 1}}}
	circuit(t, of, []int{0, 1, 2, 5}, 3, 0, 1, 2, 3)
	circuit(t, of, []int{0, 1, 2, 5}, 4, 1, 2, 4)
	circuit(t, of, []int{0, 1, 4, 5}, 3, 0, 3, 4)
	bases(t, of, set.All(6), []int{0, 1, 2, 5}, set.All(6))
	bases(t, of, []int{1, 2, 3, 4}, []int{1, 2, 3}, []int{0, 1, 2, 3, 4})
}

func TestNoCircuit(t *testing.T) {
	m := graph()
	// One that is not independent, whatever comes to it.
	for _, s := range [][]int{{3}, {0, 1, 2}, {4, 5}, {0, 1, 2, 3, 4, 5}, {0, 3}} {
		for x := range 6 {
			noCircuit(t, m, s, x)
		}
	}
	// One that has x, also where there is room for it.
	for _, s := range [][]int{{0}, {0, 1}, {0, 1, 4}, {0, 2, 5}} {
		for _, x := range s {
			noCircuit(t, m, s, x)
		}
	}
	// One that stays independent.
	noCircuit(t, m, nil, 0)
	noCircuit(t, m, []int{0}, 1)
	noCircuit(t, m, []int{1, 2}, 4)
	noCircuit(t, m, []int{1, 2}, 5)
	noCircuit(t, kind{N: 3, A: 3}, []int{0, 2}, 1)
}

func TestNoElements(t *testing.T) {
	for _, m := range bare() {
		bases(t, m, nil, nil, nil)
		bases(t, m, []int{}, nil, nil)
		bases(t, m, []int{0}, nil, nil)
		noCircuit(t, m, nil, 0)
		noCircuit(t, m, nil, -1)
		ranks(t, m, 0)
	}
}

func TestRankOfNothing(t *testing.T) {
	for _, m := range flat() {
		all := set.All(m.N)
		bases(t, m, nil, nil, all)
		bases(t, m, all, nil, all)
		ranks(t, m, 0)
		for _, x := range all {
			bases(t, m, []int{x}, nil, all)
			circuit(t, m, nil, x, x)
			circuit(t, m, []int{}, x, x)
			noCircuit(t, m, []int{x}, x)
			noCircuit(t, m, all, x)
		}
		noCircuit(t, m, nil, m.N)
	}
}

func TestAllOfDuals(t *testing.T) {
	for _, m := range kinds() {
		rank := span.All(m)
		dual := kind{Tag: api.Dual, N: m.N, Inner: []kind{m}}
		ranks(t, dual, m.N-rank)
		ranks(t, kind{Tag: api.Dual, N: m.N, Inner: []kind{dual}}, rank)
	}
}

func TestAllOfSums(t *testing.T) {
	l := kinds()
	for i, m := range l[:9] {
		other := l[(i+1)%9]
		sum := kind{Tag: api.Sum, N: m.N + other.N + 1, Inner: []kind{m, {}, other, {N: 1, A: 1}}}
		ranks(t, sum, span.All(m)+span.All(other)+1)
		ranks(t, kind{Tag: api.Sum, N: m.N, Inner: []kind{m}}, span.All(m))
	}
	ranks(t, kind{Tag: api.Sum, N: 10, Inner: []kind{{Tag: api.Dual, N: 6, Inner: []kind{graph()}}, {N: 4, A: 4}}}, 7)
}
