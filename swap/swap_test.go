package swap_test

import (
	"slices"
	"testing"

	"greenwood/api"
	"greenwood/set"
	"greenwood/swap"
)

type (
	kind  = api.Matroid
	lists = [][]int
)

// graph tells the matroid of a circle of three, an edge of one vertex alone, and an edge twice.
func graph() kind {
	return kind{Tag: api.Graph, N: 6, A: 4, List: lists{{0, 1}, {1, 2}, {2, 0}, {1, 1}, {2, 3}, {3, 2}}}
}

// wide tells the matroid of these edges, and of two more, with which any two of the four vertices have one.
func wide() kind {
	m := graph()
	m.N, m.List = 8, append(m.List, []int{3, 0}, []int{1, 3})
	return m
}

// free tells the matroid of n elements in which each set is independent.
func free(n int) kind { return kind{N: n, A: n} }

// one is a matroid with an independent set, whom others may stand for, and who may be added.
type one struct {
	m     kind
	s     []int
	stand lists // for each of the set, in order, those that may stand for it
	more  []int
}

// ofEachTag tells one of six elements of each tag, in their order, each time in new memory.
func ofEachTag() []one {
	return []one{
		{kind{N: 6, A: 2}, []int{1, 4}, lists{{0, 2, 3, 5}, {0, 2, 3, 5}}, nil},
		{graph(), []int{0, 1}, lists{{2, 4, 5}, {2, 4, 5}}, []int{4, 5}},
		{kind{Tag: api.Part, N: 6, A: 3, List: lists{{0, 2, 0, 1, 2, 2}, {1, 0, 2}}}, []int{0, 1}, lists{{2, 4, 5}, {4, 5}}, []int{4, 5}},
		{kind{Tag: api.Trans, N: 6, A: 3, List: lists{{0}, {0, 1}, {}, {1}, {1, 2}, {2}}}, []int{4, 5}, lists{{0, 1, 3}, {0, 1, 3}}, []int{0, 1}},
		{kind{Tag: api.Linear, N: 6, A: 3, B: 5, List: lists{{1, 0, 2}, {2, 0, 4}, {0, 0, 0}, {0, 1, 0}, {1, 1, 2}, {0, 0, 1}}}, []int{0, 3}, lists{{1, 4, 5}, {4, 5}}, []int{5}},
		{kind{Tag: api.Restrict, N: 6, List: lists{{0, 2, 3, 4, 6, 7}}, Inner: []kind{wide()}}, []int{0, 1, 3}, lists{{5}, {4, 5}, {4, 5}}, nil},
		{kind{Tag: api.Contract, N: 6, List: lists{{1, 3}}, Inner: []kind{wide()}}, []int{0, 2}, lists{{1, 4}, {3, 4, 5}}, nil},
		{kind{Tag: api.Trunc, N: 6, A: 2, Inner: []kind{graph()}}, []int{0, 1}, lists{{2, 4, 5}, {2, 4, 5}}, nil},
		{kind{Tag: api.Dual, N: 6, Inner: []kind{graph()}}, []int{0, 3}, lists{{1, 2, 4, 5}, {4, 5}}, []int{4, 5}},
		{kind{Tag: api.Sum, N: 6, Inner: []kind{{N: 2, A: 1}, {Tag: api.Graph, N: 4, A: 3, List: lists{{0, 1}, {1, 0}, {1, 2}, {2, 2}}}}}, []int{0, 2}, lists{{1, 4}, {3, 4}}, []int{4}},
	}
}

// may holds whether a list is a common set, either way.
func may(t *testing.T, a, b kind, s []int, want bool) {
	t.Helper()
	if there, back := swap.May(a, b, s), swap.May(b, a, s); there != want || back != want {
		t.Errorf("May(%v, %v, %v): %v, and changed about %v", a, b, s, there, back)
	}
}

// tells holds what is told of a common set against what is wanted.
func tells(t *testing.T, a, b kind, s []int, adj lists, from, to []int) {
	t.Helper()
	may(t, a, b, s, true)
	gotAdj, gotFrom, gotTo, e := swap.Graph(a, b, s)
	if e != api.OK || !slices.EqualFunc(gotAdj, adj, slices.Equal[[]int]) || !slices.Equal(gotFrom, from) || !slices.Equal(gotTo, to) {
		t.Errorf("Graph(%v, %v, %v): %v, %v, %v, %d, want %v, %v, %v", a, b, s, gotAdj, gotFrom, gotTo, e, adj, from, to)
	}
}

// about tells the digraph whose arcs lead the other way.
func about(adj lists) lists {
	l := make(lists, len(adj))
	for p, s := range adj {
		for _, q := range s {
			l[q] = append(l[q], p)
		}
	}
	return l
}

// bothWays holds what is told of a common set, and of the two matroids changed about.
func bothWays(t *testing.T, a, b kind, s []int, adj lists, from, to []int) {
	t.Helper()
	tells(t, a, b, s, adj, from, to)
	tells(t, b, a, s, about(adj), to, from)
}

// arcs tells the digraph of n elements with an arc from the first to the second of each pair.
func arcs(n int, pairs ...[2]int) lists {
	l := make(lists, n)
	for _, p := range pairs {
		l[p[0]] = append(l[p[0]], p[1])
	}
	return l
}

func TestExample(t *testing.T) {
	m := kind{N: 2, A: 1}
	bothWays(t, m, m, []int{0}, lists{{1}, {0}}, nil, nil)
}

func TestEachTag(t *testing.T) {
	for tag, c := range ofEachTag() {
		if c.m.Tag != tag {
			t.Fatalf("%v is in the place of tag %d", c.m, tag)
		}
		others := set.Minus(set.All(6), c.s)
		// In the other matroid anyone may stand for anyone.
		adj := make(lists, 6)
		for i, y := range c.s {
			adj[y] = c.stand[i]
		}
		for _, x := range others {
			adj[x] = c.s
		}
		bothWays(t, c.m, free(6), c.s, adj, c.more, others)
	}
}

func TestSameMatroid(t *testing.T) {
	for _, c := range ofEachTag() {
		adj := make(lists, 6)
		for i, y := range c.s {
			adj[y] = c.stand[i]
			for _, x := range c.stand[i] {
				adj[x] = append(adj[x], y)
			}
		}
		bothWays(t, c.m, c.m, c.s, adj, c.more, c.more)
	}
}

func TestEmptySet(t *testing.T) {
	// Nobody is there for whom one may stand: only who may be added is told.
	none := make(lists, 6)
	for tag, more := range [][]int{
		{0, 1, 2, 3, 4, 5}, {0, 1, 2, 4, 5}, {0, 1, 2, 4, 5}, {0, 1, 3, 4, 5}, {0, 1, 3, 4, 5},
		{0, 1, 3, 4, 5}, {0, 1, 2, 3, 4, 5}, {0, 1, 2, 4, 5}, {0, 1, 2, 3, 4, 5}, {0, 1, 2, 3, 4},
	} {
		m := ofEachTag()[tag].m
		for _, s := range [][]int{nil, {}} {
			bothWays(t, m, free(6), s, none, more, set.All(6))
			bothWays(t, m, kind{N: 6}, s, none, more, nil)
			bothWays(t, m, graph(), s, none, more, []int{0, 1, 2, 4, 5})
		}
	}
}

func TestBases(t *testing.T) {
	two := kind{N: 6, A: 2}
	// Of both.
	bothWays(t, graph(), kind{N: 6, A: 3}, []int{0, 1, 4}, lists{{2}, {2}, {0, 1, 4}, {0, 1, 4}, {5}, {0, 1, 4}}, nil, nil)
	// Of one: in the other one some may be added, and stand for all.
	bothWays(t, graph(), two, []int{0, 1}, lists{{2, 4, 5}, {2, 4, 5}, {0, 1}, {0, 1}, {0, 1}, {0, 1}}, []int{4, 5}, nil)
	// Of one that has all: nobody is left.
	bothWays(t, free(3), free(3), []int{0, 1, 2}, make(lists, 3), nil, nil)
	// Of neither.
	bothWays(t, graph(), two, []int{4}, lists{{4}, {4}, {4}, {4}, {0, 1, 2, 5}, {4}}, []int{0, 1, 2}, []int{0, 1, 2, 3, 5})
}

func TestArcs(t *testing.T) {
	// Classes 0 1 and 2 3, and classes 0 2 and 1 3, of one each.
	rows := kind{Tag: api.Part, N: 4, A: 2, List: lists{{0, 0, 1, 1}, {1, 1}}}
	columns := kind{Tag: api.Part, N: 4, A: 2, List: lists{{0, 1, 0, 1}, {1, 1}}}
	// For 0 there may stand 1 in the one alone, 2 in the other one alone, 3 (that may be added) in both.
	bothWays(t, rows, rows, []int{0}, arcs(4, [2]int{0, 1}, [2]int{0, 2}, [2]int{0, 3}, [2]int{1, 0}, [2]int{2, 0}, [2]int{3, 0}), []int{2, 3}, []int{2, 3})
	bothWays(t, rows, columns, []int{0}, arcs(4, [2]int{0, 1}, [2]int{0, 2}, [2]int{0, 3}, [2]int{1, 0}, [2]int{2, 0}, [2]int{3, 0}), []int{2, 3}, []int{1, 3})
	bothWays(t, rows, columns, []int{0, 3}, arcs(4, [2]int{0, 1}, [2]int{3, 2}, [2]int{1, 3}, [2]int{2, 0}), nil, nil)
	bothWays(t, rows, columns, []int{1, 2}, arcs(4, [2]int{1, 0}, [2]int{2, 3}, [2]int{0, 2}, [2]int{3, 1}), nil, nil)
	// Both ways between 0 and 1, and none at all from or to 2, which is independent in neither.
	pair := kind{Tag: api.Part, N: 3, A: 2, List: lists{{0, 0, 1}, {1, 0}}}
	bothWays(t, pair, pair, []int{0}, arcs(3, [2]int{0, 1}, [2]int{1, 0}), nil, nil)
	bothWays(t, pair, kind{N: 3, A: 1}, []int{0}, arcs(3, [2]int{0, 1}, [2]int{1, 0}, [2]int{2, 0}), nil, nil)
	// None for 3: nobody else makes the fourth vertex connected.
	g := kind{Tag: api.Graph, N: 4, A: 4, List: lists{{0, 1}, {1, 2}, {2, 0}, {2, 3}}}
	bothWays(t, g, g, []int{0, 1, 3}, arcs(4, [2]int{0, 2}, [2]int{1, 2}, [2]int{2, 0}, [2]int{2, 1}), nil, nil)
	// None leads between two of the set, or two others.
	bothWays(t, free(4), free(4), []int{1, 2}, lists{{1, 2}, {0, 3}, {0, 3}, {1, 2}}, []int{0, 3}, []int{0, 3})
}

func TestWhoMayBeAdded(t *testing.T) {
	some := func(l ...int) kind {
		m := kind{Tag: api.Part, N: 5, A: 2, List: lists{{0, 0, 0, 0, 0}, {0, 5}}}
		for _, x := range l {
			m.List[0][x] = 1
		}
		return m
	}
	// 1 in the one, 2 in the other one, 3 in both, 4 in neither.
	bothWays(t, some(0, 1, 3), some(0, 2, 3), []int{0}, lists{{1, 3}, nil, {0}, {0}, nil}, []int{1, 3}, []int{2, 3})
	bothWays(t, some(0, 1), some(0, 2), []int{0}, lists{{1}, nil, {0}, nil, nil}, []int{1}, []int{2})
	bothWays(t, some(0, 3, 4), some(0, 1, 2, 3, 4), []int{0}, lists{{3, 4}, {0}, {0}, {0}, {0}}, []int{3, 4}, []int{1, 2, 3, 4})
	bothWays(t, some(1, 3), some(2, 3), nil, make(lists, 5), []int{1, 3}, []int{2, 3})
	bothWays(t, some(0), some(0, 2), []int{0}, lists{nil, nil, {0}, nil, nil}, nil, []int{2})
}

func TestNoElements(t *testing.T) {
	inner := []kind{{}}
	bare := []kind{
		{}, {Tag: api.Graph, A: 1}, {Tag: api.Part, A: 1, List: lists{{}, {2}}}, {Tag: api.Trans, A: 2}, {Tag: api.Linear, A: 2, B: 3},
		{Tag: api.Restrict, List: lists{{}}, Inner: []kind{graph()}}, {Tag: api.Contract, List: lists{set.All(6)}, Inner: []kind{graph()}},
		{Tag: api.Trunc, A: 2, Inner: inner}, {Tag: api.Dual, Inner: inner}, {Tag: api.Sum, Inner: []kind{{}, {}}},
	}
	for _, a := range bare {
		for _, b := range bare {
			bothWays(t, a, b, nil, nil, nil, nil)
			bothWays(t, a, b, []int{}, nil, nil, nil)
			nothing(t, a, b, []int{0})
		}
		nothing(t, a, kind{N: 1}, nil)
	}
}

func TestRankOfNothing(t *testing.T) {
	flat := []kind{
		{N: 3}, {Tag: api.Graph, N: 3, A: 2, List: lists{{1, 1}, {0, 0}, {1, 1}}}, {Tag: api.Part, N: 3, A: 2, List: lists{{1, 1, 1}, {3, 0}}},
		{Tag: api.Trans, N: 3, A: 1, List: lists{{}, {}, nil}}, {Tag: api.Linear, N: 3, A: 2, B: 7, List: lists{{0, 0}, {0, 0}, {0, 0}}},
		{Tag: api.Restrict, N: 3, List: lists{{0, 1, 2}}, Inner: []kind{{N: 4}}}, {Tag: api.Contract, N: 3, List: lists{{0, 1, 4}}, Inner: []kind{graph()}},
		{Tag: api.Trunc, N: 3, Inner: []kind{{N: 3, A: 2}}}, {Tag: api.Dual, N: 3, Inner: []kind{free(3)}}, {Tag: api.Sum, N: 3, Inner: []kind{{N: 1}, {}, {N: 2}}},
	}
	for _, a := range flat {
		for _, b := range flat {
			bothWays(t, a, b, nil, make(lists, 3), nil, nil)
			nothing(t, a, b, []int{1})
		}
		bothWays(t, a, free(3), nil, make(lists, 3), nil, []int{0, 1, 2})
		nothing(t, a, free(3), []int{1})
	}
}
