package greedy_test

import (
	"math"
	"slices"
	"testing"

	"greenwood/api"
	"greenwood/greedy"
	"greenwood/set"
)

type (
	kind  = api.Matroid
	lists = [][]int
)

const (
	least    = math.MinInt
	greatest = math.MaxInt
	heavy    = 1 << 40
)

// graph tells the matroid of a circle of three, an edge of one vertex alone, and an edge twice.
func graph() kind {
	return kind{Tag: api.Graph, N: 6, A: 4, List: lists{{0, 1}, {1, 2}, {2, 0}, {1, 1}, {2, 3}, {3, 2}}}
}

// takes holds what is taken, up to so many, against what is wanted.
func takes(t *testing.T, m kind, w []int, k int, want ...int) {
	t.Helper()
	if got := greedy.Take(m, w, k); !slices.Equal(got, want) {
		t.Errorf("Take(%v, %v, %d): %v, want %v", m, w, k, got, want)
	}
}

// best holds what is the heaviest of all against what is wanted.
func best(t *testing.T, m kind, w []int, want ...int) {
	t.Helper()
	if got := greedy.Best(m, w); !slices.Equal(got, want) {
		t.Errorf("Best(%v, %v): %v, want %v", m, w, got, want)
	}
}

// may holds whether weights may be.
func may(t *testing.T, m kind, w []int, want bool) {
	t.Helper()
	if got := greedy.May(m, w); got != want {
		t.Errorf("May(%v, %v): %v, want %v", m, w, got, want)
	}
}

// one is a matroid with weights, and what is told of these: without a bound, of one element, and of weights above 0.
type one struct {
	m     kind
	w     []int
	all   []int
	first int
	above []int
}

// ofEachTag tells of each tag at least one, in their order.
func ofEachTag() []one {
	in := []kind{graph()}
	return []one{
		{kind{N: 5, A: 2}, []int{3, 9, -1, 9, 4}, []int{1, 3}, 1, []int{1, 3}},
		{kind{N: 5, A: 4}, []int{3, -9, -1, -1, 4}, []int{0, 2, 3, 4}, 4, []int{0, 4}},
		{graph(), []int{1, 5, 3, 9, 2, 2}, []int{1, 2, 4}, 1, []int{1, 2, 4}},
		{graph(), []int{-1, -5, -3, 9, 0, -7}, []int{0, 2, 4}, 4, nil},
		{kind{Tag: api.Part, N: 5, A: 3, List: lists{{0, 2, 0, 1, 2}, {1, 0, 64}}}, []int{4, 1, 6, 9, -2}, []int{1, 2, 4}, 2, []int{1, 2}},
		{kind{Tag: api.Trans, N: 4, A: 2, List: lists{{0}, {0, 1}, {}, {1}}}, []int{2, 7, 8, 7}, []int{1, 3}, 1, []int{1, 3}},
		{kind{Tag: api.Linear, N: 5, A: 2, B: 5, List: lists{{1, 2}, {2, 4}, {0, 0}, {0, 1}, {1, 3}}}, []int{6, 8, 9, -1, -1}, []int{1, 3}, 1, []int{1}},
		{kind{Tag: api.Restrict, N: 4, List: lists{{0, 2, 3, 5}}, Inner: in}, []int{-1, 2, 7, 0}, []int{0, 1, 3}, 1, []int{1}},
		{kind{Tag: api.Contract, N: 5, List: lists{{1}}, Inner: in}, []int{5, 6, 1, -2, -1}, []int{1, 4}, 1, []int{1}},
		{kind{Tag: api.Trunc, N: 6, A: 2, Inner: in}, []int{1, 5, 3, 9, 2, 4}, []int{1, 5}, 1, []int{1, 5}},
		{kind{Tag: api.Dual, N: 6, Inner: in}, []int{1, 5, 3, 9, 2, 4}, []int{1, 3, 5}, 3, []int{1, 3, 5}},
		{kind{Tag: api.Sum, N: 9, Inner: []kind{graph(), {N: 3, A: 1}}}, []int{1, 5, 3, 9, 2, 2, 7, 8, -1}, []int{1, 2, 4, 7}, 7, []int{1, 2, 4, 7}},
	}
}

func TestExample(t *testing.T) {
	best(t, kind{N: 3, A: 2}, []int{5, -1, 7}, 0, 2)
}

func TestEachTag(t *testing.T) {
	tags := map[int]bool{}
	for _, c := range ofEachTag() {
		tags[c.m.Tag] = true
		may(t, c.m, c.w, true)
		takes(t, c.m, c.w, c.m.N, c.all...)
		takes(t, c.m, c.w, 1, c.first)
		best(t, c.m, c.w, c.above...)
	}
	if len(tags) != api.Tags {
		t.Errorf("%d tags of %d", len(tags), api.Tags)
	}
}

func TestBounds(t *testing.T) {
	m, w := graph(), []int{1, 5, 3, 9, 2, 2}
	for _, k := range []int{least, least + 1, -1 << 32, -2, -1, 0} {
		takes(t, m, w, k)
	}
	// The heaviest one is not independent alone, and does not count.
	takes(t, m, w, 1, 1)
	takes(t, m, w, 2, 1, 2)
	for _, k := range []int{3, 4, 5, 6, 7, 64, 65, 1 << 32, greatest - 1, greatest} {
		takes(t, m, w, k, 1, 2, 4)
	}
}

func TestSameWeights(t *testing.T) {
	for _, x := range []int{-heavy, -1, 0, 1, heavy} {
		w := slices.Repeat([]int{x}, 6)
		takes(t, graph(), w, 6, 0, 1, 4)
		takes(t, graph(), w, 2, 0, 1)
		takes(t, kind{N: 6, A: 5}, w, 3, 0, 1, 2)
		if x > 0 {
			best(t, graph(), w, 0, 1, 4)
			best(t, kind{N: 6, A: 3}, w, 0, 1, 2)
		} else {
			best(t, graph(), w)
			best(t, kind{N: 6, A: 3}, w)
		}
	}
	// Among the same ones the place tells, whatever is heavier behind them.
	takes(t, kind{N: 5, A: 5}, []int{2, 2, 7, 2, 7}, 3, 0, 2, 4)
	takes(t, kind{N: 5, A: 5}, []int{2, 2, 7, 2, 7}, 1, 2)
	best(t, kind{N: 5, A: 4}, []int{2, 2, 7, 2, 7}, 0, 1, 2, 4)
	takes(t, graph(), []int{3, 3, 3, 0, 1, 1}, 3, 0, 1, 4)
	takes(t, graph(), []int{2, 3, 3, 0, -1, 0}, 3, 1, 2, 5)
	// Here an edge of the circle comes behind one that is elsewhere.
	best(t, graph(), []int{1, 2, 2, 2, 1, 2}, 1, 2, 5)
}

func TestNothingAndBelow(t *testing.T) {
	free := kind{N: 4, A: 4}
	best(t, free, []int{0, 1, -1, 0}, 1)
	takes(t, free, []int{0, 1, -1, 0}, 4, 0, 1, 2, 3)
	takes(t, free, []int{0, 1, -1, 0}, 3, 0, 1, 3)
	takes(t, free, []int{0, 1, -1, 0}, 2, 0, 1)
	best(t, free, []int{-4, -3, -2, -1})
	takes(t, free, []int{-4, -3, -2, -1}, 2, 2, 3)
	takes(t, free, []int{-4, -3, -2, -1}, 4, 0, 1, 2, 3)
	best(t, free, []int{0, 0, 0, 0})
	takes(t, free, []int{0, 0, 0, 0}, 4, 0, 1, 2, 3)
	best(t, free, []int{heavy, -heavy, 1, -1}, 0, 2)
	takes(t, free, []int{heavy, -heavy, 1, -1}, 3, 0, 2, 3)
	// No weight above 0 is of an element that is independent alone.
	best(t, graph(), []int{0, -1, 0, 9, 0, 0})
	takes(t, graph(), []int{0, -1, 0, 9, 0, 0}, 6, 0, 2, 4)
}

func TestHeaviestIsNoFirst(t *testing.T) {
	// The two that go together are less than one each, but more than it together with what is left.
	m := kind{Tag: api.Trans, N: 3, A: 2, List: lists{{0}, {0, 1}, {1}}}
	takes(t, m, []int{4, 5, 4}, 2, 0, 1)
	takes(t, m, []int{4, 5, 6}, 2, 1, 2)
	takes(t, m, []int{4, 3, 4}, 2, 0, 2)
	best(t, m, []int{4, 3, 4}, 0, 2)
	best(t, m, []int{-4, 3, 4}, 1, 2)
	best(t, m, []int{4, 3, -4}, 0, 1)
}

func TestNoElements(t *testing.T) {
	inner := []kind{{}}
	for _, m := range []kind{
		{}, {Tag: api.Graph, A: 1}, {Tag: api.Part, A: 1, List: lists{{}, {2}}}, {Tag: api.Trans, A: 2}, {Tag: api.Linear, A: 2, B: 3},
		{Tag: api.Restrict, List: lists{{}}, Inner: []kind{graph()}}, {Tag: api.Contract, List: lists{set.All(6)}, Inner: []kind{graph()}},
		{Tag: api.Trunc, A: 2, Inner: inner}, {Tag: api.Dual, Inner: inner}, {Tag: api.Sum, Inner: []kind{{}, {}}},
	} {
		for _, w := range [][]int{nil, {}} {
			may(t, m, w, true)
			best(t, m, w)
			for _, k := range []int{least, -1, 0, 1, greatest} {
				takes(t, m, w, k)
			}
		}
		nothing(t, m, []int{1})
	}
}

func TestRankOfNothing(t *testing.T) {
	w := []int{3, -1, 0}
	for _, m := range []kind{
		{N: 3}, {Tag: api.Graph, N: 3, A: 2, List: lists{{1, 1}, {0, 0}, {1, 1}}}, {Tag: api.Part, N: 3, A: 2, List: lists{{1, 1, 1}, {3, 0}}},
		{Tag: api.Trans, N: 3, A: 1, List: lists{{}, {}, nil}}, {Tag: api.Trans, N: 3, List: make(lists, 3)},
		{Tag: api.Linear, N: 3, A: 2, B: 7, List: lists{{0, 0}, {0, 0}, {0, 0}}}, {Tag: api.Linear, N: 3, B: 2, List: make(lists, 3)},
		{Tag: api.Contract, N: 3, List: lists{{0, 1, 4}}, Inner: []kind{graph()}}, {Tag: api.Trunc, N: 3, Inner: []kind{{N: 3, A: 2}}},
		{Tag: api.Dual, N: 3, Inner: []kind{{N: 3, A: 3}}}, {Tag: api.Sum, N: 3, Inner: []kind{{N: 1}, {}, {N: 2}}},
	} {
		may(t, m, w, true)
		best(t, m, w)
		for _, k := range []int{-1, 0, 1, 3, greatest} {
			takes(t, m, w, k)
		}
	}
}

func TestNotIndependentAlone(t *testing.T) {
	loops := kind{Tag: api.Graph, N: 4, A: 2, List: lists{{1, 1}, {0, 1}, {0, 0}, {1, 0}}}
	for _, w := range [][]int{{9, 1, 9, 1}, {0, 1, 0, 1}, {-9, 1, -9, 1}, {1, 1, 1, 1}, {heavy, 1, heavy, 0}} {
		best(t, loops, w, 1)
		for _, k := range []int{1, 2, 4} {
			takes(t, loops, w, k, 1)
		}
	}
	takes(t, loops, []int{9, 1, 9, 2}, 1, 3)
	takes(t, loops, []int{9, -2, 9, -1}, 4, 3)
	best(t, loops, []int{9, -2, 9, -1})
}
