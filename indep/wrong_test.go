package indep_test

import (
	"slices"
	"testing"

	"greenwood/api"
	"greenwood/indep"
)

func TestNoSet(t *testing.T) {
	for _, m := range append(kinds(), wrapped(graph, 3)) {
		for _, s := range [][]int{{1, 0}, {0, 0}, {1, 1}, {0, 1, 0}, {2, 1, 0}, {0, 1, 1}} {
			mayNot(t, m, s)
		}
	}
}

func TestNoElement(t *testing.T) {
	for _, m := range append(kinds(), free(0), edges(1), stays(graph), goes(graph, 0, 1, 2, 3), free(64), wrapped(graph, 3)) {
		for _, x := range []int{least, -64, -1, m.N, m.N + 1, 65, 1 << 32, 1 << 40, 1<<40 + 1, greatest} {
			mayNot(t, m, []int{x})
			mayNot(t, m, append(rising(m.N), x))
			mayNot(t, m, append([]int{x}, rising(m.N)...))
		}
		if m.N > 0 {
			ranks(t, m, []int{m.N - 1}, indep.Rank(m, []int{m.N - 1}))
		}
		mayNot(t, m, rising(m.N+1))
		mayNot(t, m, rising(100000))
	}
}

// wrong tells matroids that may not be.
func wrong() []kind {
	bad := []kind{
		{Tag: -1}, {Tag: api.Tags}, {Tag: 99}, {Tag: least}, {Tag: greatest},
		{N: -1}, {N: 65}, {N: 65, A: 65}, {N: least}, {N: greatest}, {N: greatest, A: greatest},
		{N: 3, A: 4}, {N: 3, A: -1}, {N: 3, A: 2, B: 1}, {N: 3, A: 2, List: lists{nil}}, {N: 3, A: 2, Inner: inner{uniform}},
		edges(0), edges(65), edges(3, []int{0}), edges(3, nil), edges(3, []int{0, 1, 2}), edges(3, []int{0, 3}), edges(3, []int{-1, 0}),
		{Tag: api.Graph, N: 2, A: 3, List: lists{{0, 1}}}, {Tag: api.Graph, N: 1, A: 3},
		classes([]int{0, 1}, 3), classes([]int{-1}, 3), classes([]int{0}, 65), classes([]int{0}, -1), classes([]int{0}),
		{Tag: api.Part, N: 1, A: 1}, {Tag: api.Part, N: 1, A: 1, List: lists{{0}}}, {Tag: api.Part, N: 2, A: 1, List: lists{{0}, {1}}},
		sides(2, []int{2}), sides(2, []int{1, 0}), sides(2, []int{0, 0}), sides(2, []int{-1}), sides(-1), sides(65),
		{Tag: api.Trans, N: 2, A: 2, List: lists{{0}}}, {Tag: api.Trans, N: 1, A: 2},
		columns(4, 1, []int{0}), columns(0, 1, []int{0}), columns(1, 1, []int{0}), columns(-5, 1, []int{0}), columns(5, 1, []int{5}), columns(5, 2, []int{0}),
		columns(5, 1, []int{-1}), columns(5, 65), {Tag: api.Linear, N: 2, A: 1, B: 5, List: lists{{0}}},
		stays(graph, 4), stays(graph, -1), stays(graph, 1, 0), stays(graph, 1, 1), goes(graph, 4), goes(graph, -1), goes(graph, 1, 0), goes(graph, 1, 1),
		most(-1, graph), most(65, graph),
		{Tag: api.Sum}, {Tag: api.Dual}, {Tag: api.Trunc}, {Tag: api.Restrict, List: lists{nil}}, {Tag: api.Contract, List: lists{nil}},
		sumOf(free(40), free(25)), sumOf(slices.Repeat(inner{free(1)}, 9)...), sumOf(free(-1), free(2)),
	}
	for _, m := range kinds()[api.Restrict:] {
		more, fewer, twice, other := m, m, m, m
		more.N++
		fewer.N--
		twice.Inner = append(slices.Clone(m.Inner), uniform)
		other.B = 2
		bad = append(bad, more, fewer, twice, other)
	}
	return bad
}

func TestWhatMayNotBe(t *testing.T) {
	for _, m := range wrong() {
		for _, around := range []kind{m, sumOf(m), dualOf(m), most(1, m), stays(m, 0), stays(m), goes(m, 0), goes(m), sumOf(uniform, m), wrapped(m, 3), wrapped(m, 4)} {
			for _, s := range [][]int{nil, {}, {0}, {1}, {0, 1}, {-1}, {1, 0}} {
				mayNot(t, around, s)
			}
		}
	}
}

func TestTooDeep(t *testing.T) {
	around := []func(kind) kind{
		func(m kind) kind { return stays(m, rising(m.N)...) },
		func(m kind) kind { return goes(m) },
		func(m kind) kind { return most(64, m) },
		dualOf,
		func(m kind) kind { return sumOf(m) },
	}
	for _, f := range around {
		for _, g := range around {
			for _, h := range around {
				m := f(g(h(kind{N: 4, A: 2})))
				ranks(t, m, nil, 0)
				ranks(t, m, []int{3}, 1)
				ranks(t, m, rising(4), 2)
				for _, k := range around {
					for _, s := range [][]int{nil, {}, {3}, {0, 1, 2, 3}, {4}} {
						mayNot(t, k(m), s)
						mayNot(t, f(k(m)), s)
					}
				}
			}
		}
	}
	for _, many := range []int{4, 5, 6, 100, 1 << 16} {
		mayNot(t, wrapped(graph, many), nil)
		mayNot(t, wrapped(graph, many), []int{0})
	}
}

func TestWhatHasItselfWithin(t *testing.T) {
	for tag := api.Restrict; tag < api.Tags; tag++ {
		for _, many := range []int{1, 8, 100} {
			l := make(inner, many)
			for i := range l {
				l[i] = kind{Tag: tag, Inner: l}
			}
			mayNot(t, l[0], nil)
			mayNot(t, l[many-1], []int{0})
		}
	}
}

func TestNilAndEmpty(t *testing.T) {
	for _, s := range [][]int{nil, {}} {
		for _, l := range []lists{nil, {}} {
			for _, in := range []inner{nil, {}} {
				ranks(t, kind{List: l, Inner: in}, s, 0)
				ranks(t, kind{N: 2, A: 1, List: l, Inner: in}, []int{0, 1}, 1)
				ranks(t, kind{Tag: api.Graph, A: 1, List: l, Inner: in}, s, 0)
				ranks(t, kind{Tag: api.Trans, A: 3, List: l, Inner: in}, s, 0)
				ranks(t, kind{Tag: api.Linear, A: 2, B: 3, List: l, Inner: in}, s, 0)
				mayNot(t, kind{Tag: api.Sum, List: l, Inner: in}, s)
			}
			for _, tag := range []int{api.Trunc, api.Dual, api.Sum} {
				m := kind{Tag: tag, N: 2, List: l, Inner: inner{{N: 2, A: 1}}}
				ranks(t, m, s, 0)
				ranks(t, m, []int{0, 1}, min(tag-api.Trunc, 1))
			}
		}
		ranks(t, kind{Tag: api.Part, List: lists{s, s}}, s, 0)
		ranks(t, sides(2, s, []int{0}), []int{0, 1}, 1)
		ranks(t, columns(2, 0, s, s), []int{0, 1}, 0)
		ranks(t, kind{Tag: api.Restrict, List: lists{s}, Inner: inner{graph}}, s, 0)
		ranks(t, kind{Tag: api.Contract, N: 4, List: lists{s}, Inner: inner{graph}}, s, 0)
		ranks(t, kind{Tag: api.Contract, N: 4, List: lists{s}, Inner: inner{graph}}, []int{0, 1, 2}, 2)
	}
}

// copied tells a matroid like another one, in memory of its own, with room behind each list.
func copied(m kind) kind {
	l, in := m.List, m.Inner
	m.List, m.Inner = make(lists, 0, len(l)+1), make(inner, 0, len(in)+1)
	for _, s := range l {
		m.List = append(m.List, roomy(s))
	}
	for _, other := range in {
		m.Inner = append(m.Inner, copied(other))
	}
	return m
}

// roomy tells a list like another one, in memory of its own, with sevens behind it.
func roomy(s []int) []int { return append(slices.Clone(s), 7, 7, 7)[:len(s)] }

// same tells whether matroids are the same, with what stands in the room behind their lists.
func same(a, b kind) bool {
	return a.Tag == b.Tag && a.N == b.N && a.A == b.A && a.B == b.B && slices.EqualFunc(a.List, b.List, sameList) && slices.EqualFunc(a.Inner, b.Inner, same)
}

// sameList tells whether lists are the same, with what stands in the room behind them.
func sameList(a, b []int) bool { return len(a) == len(b) && slices.Equal(a[:len(a)+3], b[:len(b)+3]) }

func TestNothingIsChangedOrKept(t *testing.T) {
	l := append(kinds(), goes(graph, 0, 1, 2), sumOf(parts, contract, linear, restrict), dualOf(goes(stays(sum, 1, 2, 4, 5, 9), 0, 3)))
	for _, m := range append(l, wrong()...) {
		for _, s := range [][]int{nil, {0}, {0, 1}, rising(max(0, min(m.N, 64)))} {
			given, was, asked := copied(m), copied(m), roomy(s)
			may, is, rank := indep.May(given, asked), indep.Indep(given, asked), indep.Rank(given, asked)
			if !same(given, was) || !sameList(asked, roomy(s)) {
				t.Fatalf("%v was changed to %v, or %v to %v", was, given, s, asked)
			}
			indep.Rank(sum, rising(11))
			indep.Indep(kind{Tag: 99}, asked)
			if indep.Rank(given, asked) != rank || indep.Indep(given, asked) != is || indep.May(given, asked) != may {
				t.Fatalf("%v, %v: another answer than before", was, s)
			}
		}
	}
}
