package reach_test

import (
	"math"
	"slices"
	"testing"

	"greenwood/reach"
)

// most is how many points a digraph has, at most.
const most = 4096

// top is the greatest number that may be in a set.
const top = 1 << 40

type lists = [][]int

// short tells the first of some lists, to be written.
func short(adj lists) lists { return adj[:min(len(adj), 8)] }

// told holds a way against the one that is wanted.
func told(t *testing.T, adj lists, from, to, want []int) {
	t.Helper()
	if !reach.May(adj) {
		t.Errorf("May(%v ..): false", short(adj))
	}
	if p, ok := reach.Path(adj, from, to); !ok || !slices.Equal(p, want) {
		t.Errorf("Path(%v .., %v, %v): %v, %t, want %v", short(adj), from, to, p, ok, want)
	}
}

// noWay holds that there is no way.
func noWay(t *testing.T, adj lists, from, to []int) {
	t.Helper()
	if !reach.May(adj) {
		t.Errorf("May(%v ..): false", short(adj))
	}
	if p, ok := reach.Path(adj, from, to); ok || p != nil {
		t.Errorf("Path(%v .., %v, %v): %v, %t, want none", short(adj), from, to, p, ok)
	}
}

// comes holds what one comes to against what is wanted.
func comes(t *testing.T, adj lists, from, want []int) {
	t.Helper()
	if !reach.May(adj) {
		t.Errorf("May(%v ..): false", short(adj))
	}
	if got := reach.From(adj, from); !slices.Equal(got, want) {
		t.Errorf("From(%v .., %v): %v, want %v", short(adj), from, got, want)
	}
}

// refused asks the calls of what may not be: points, or sets of them.
func refused(t *testing.T, adj lists, from, to []int) {
	t.Helper()
	if p, ok := reach.Path(adj, from, to); ok || p != nil {
		t.Errorf("Path(%v .., %v, %v): %v, %t", short(adj), from, to, p, ok)
	}
}

// noDigraph asks each call of what is no digraph.
func noDigraph(t *testing.T, adj lists) {
	t.Helper()
	if reach.May(adj) {
		t.Errorf("May(%v ..): true", short(adj))
	}
	for _, from := range [][]int{nil, {}, {0}, {0, 1}, {1}, {len(adj) - 1}, {len(adj)}, {-1}} {
		if got := reach.From(adj, from); got != nil {
			t.Errorf("From(%v .., %v): %v", short(adj), from, got)
		}
		for _, to := range [][]int{nil, {}, {0}, {0, 1}, {1}, {len(adj) - 1}, {len(adj)}, {-1}} {
			refused(t, adj, from, to)
		}
	}
}

// all tells 0 to n - 1.
func all(n int) []int {
	l := make([]int, n)
	for i := range l {
		l[i] = i
	}
	return l
}

// row tells n points, an arc leading from each to the next one.
func row(n int) lists {
	adj := make(lists, n)
	for i := range n - 1 {
		adj[i] = []int{i + 1}
	}
	return adj
}

// circle tells n points, an arc leading from each to the next one, and from the last to the first.
func circle(n int) lists {
	adj := row(n)
	adj[n-1] = []int{0}
	return adj
}

func TestExample(t *testing.T) {
	told(t, lists{{1, 2}, {3}, {3}, nil}, []int{0}, []int{3}, []int{0, 1, 3})
}

func TestFrom(t *testing.T) {
	adj := lists{{1, 2}, {3}, {3, 4}, {5}, {5}, {}, {7}, {6}, {2, 6}}
	cases := []struct{ from, want []int }{
		{nil, nil},
		{[]int{}, nil},
		{[]int{0}, []int{0, 1, 2, 3, 4, 5}},
		{[]int{1}, []int{1, 3, 5}},
		{[]int{2}, []int{2, 3, 4, 5}},
		{[]int{3}, []int{3, 5}},
		{[]int{4}, []int{4, 5}},
		{[]int{5}, []int{5}},
		{[]int{6}, []int{6, 7}},
		{[]int{7}, []int{6, 7}},
		{[]int{8}, []int{2, 3, 4, 5, 6, 7, 8}},
		{[]int{3, 4}, []int{3, 4, 5}},
		{[]int{1, 3}, []int{1, 3, 5}},
		{[]int{3, 6}, []int{3, 5, 6, 7}},
		{[]int{5, 8}, []int{2, 3, 4, 5, 6, 7, 8}},
		{[]int{0, 8}, all(9)},
		{all(9), all(9)},
	}
	for _, c := range cases {
		comes(t, adj, c.from, c.want)
	}
}

func TestPath(t *testing.T) {
	adj := lists{{1, 2}, {3}, {3, 4}, {5}, {5}, {0}, {7}, {6, 8}, {}}
	cases := []struct{ from, to, want []int }{
		{[]int{0}, []int{1}, []int{0, 1}},
		{[]int{0}, []int{4}, []int{0, 2, 4}},
		{[]int{0}, []int{5}, []int{0, 1, 3, 5}},
		{[]int{2}, []int{1}, []int{2, 3, 5, 0, 1}},
		{[]int{4}, []int{3}, []int{4, 5, 0, 1, 3}},
		{[]int{6}, []int{8}, []int{6, 7, 8}},
		// Several points, one of which is nearer than the others.
		{[]int{0, 2}, []int{5}, []int{2, 3, 5}},
		{[]int{0, 1, 4}, []int{5}, []int{4, 5}},
		{[]int{0}, []int{3, 4, 5}, []int{0, 1, 3}},
		{[]int{0}, []int{4, 5}, []int{0, 2, 4}},
		{[]int{0, 6}, []int{5, 8}, []int{6, 7, 8}},
		{[]int{0, 6}, []int{3, 8}, []int{0, 1, 3}},
		{[]int{0, 7}, []int{3, 8}, []int{7, 8}},
		// One can't come to some of them, nor from some.
		{[]int{0, 8}, []int{4, 6}, []int{0, 2, 4}},
		{[]int{3, 6, 8}, []int{0}, []int{3, 5, 0}},
	}
	for _, c := range cases {
		told(t, adj, c.from, c.to, c.want)
	}
}

func TestFromAndToMeet(t *testing.T) {
	for _, adj := range []lists{row(6), circle(6), make(lists, 6), slices.Repeat(lists{all(6)}, 6)} {
		for p := range 6 {
			told(t, adj, []int{p}, []int{p}, []int{p})
			told(t, adj, all(6), []int{p}, []int{p})
			told(t, adj, []int{p}, all(6), []int{p})
		}
		told(t, adj, all(6), all(6), []int{0})
		told(t, adj, []int{0, 2, 4}, []int{1, 2, 3, 4, 5}, []int{2})
		told(t, adj, []int{0, 1, 2, 5}, []int{3, 5}, []int{5})
		told(t, adj, []int{0, 5}, []int{1, 5}, []int{5})
		told(t, adj, []int{1, 5}, []int{0, 5}, []int{5})
	}
}

func TestLeastWhereTwoDiffer(t *testing.T) {
	cases := []struct {
		adj            lists
		from, to, want []int
	}{
		// At the first point.
		{lists{{2}, {2}, nil}, []int{0, 1}, []int{2}, []int{0, 2}},
		{lists{{4}, {3}, nil, {5}, {5}, nil}, []int{0, 1}, []int{5}, []int{0, 4, 5}},
		{lists{{5}, {2}, {3}, nil, nil, {6}, nil}, []int{0, 1}, []int{3, 6}, []int{0, 5, 6}},
		{lists{{5}, {2}, {3}, nil, nil, {6}, nil}, []int{1, 5}, []int{3, 6}, []int{5, 6}},
		{lists{nil, {6}, {5}, {4}, {7}, {7}, {7}, nil}, []int{1, 2, 3}, []int{7}, []int{1, 6, 7}},
		{lists{nil, {6}, {5}, {4}, {7}, {7}, nil, nil}, []int{1, 2, 3}, []int{7}, []int{2, 5, 7}},
		// At the last point.
		{lists{{1, 2}, nil, nil}, []int{0}, []int{1, 2}, []int{0, 1}},
		{lists{nil, nil, {0, 1}}, []int{2}, []int{0, 1}, []int{2, 0}},
		{lists{nil, {0, 4}, nil, {1}, nil}, []int{3}, []int{0, 4}, []int{3, 1, 0}},
		{lists{nil, {2, 4}, nil, {1}, nil}, []int{3}, []int{0, 4}, []int{3, 1, 4}},
		// Between, at the second point, or at the last but one.
		{lists{{1, 2}, {3}, {3}, nil}, []int{0}, []int{3}, []int{0, 1, 3}},
		{lists{nil, {0}, {0}, {1, 2}}, []int{3}, []int{0}, []int{3, 1, 0}},
		{lists{{1}, {2, 3}, {4}, {4}, nil}, []int{0}, []int{4}, []int{0, 1, 2, 4}},
		{lists{{1, 2}, {4}, {3}, {5}, {5}, nil}, []int{0}, []int{5}, []int{0, 1, 4, 5}},
		{lists{{1, 2}, {6}, {3}, {4}, {7}, nil, {5}, nil}, []int{0}, []int{5, 7}, []int{0, 1, 6, 5}},
		{lists{{1, 2}, {6}, {3}, {4}, nil, {7}, {5}, nil}, []int{0}, []int{4, 7}, []int{0, 2, 3, 4}},
		// Where they first differ counts, not where they do later.
		{lists{{1, 2}, {5}, {4}, nil, {6}, {7}, nil, nil}, []int{0}, []int{6, 7}, []int{0, 1, 5, 7}},
		{lists{{4, 5}, nil, nil, nil, {3}, {1}}, []int{0}, []int{1, 3}, []int{0, 4, 3}},
		{lists{{5}, {2}, {3}, nil, nil, {6}, {4}}, []int{0, 1}, []int{3, 4}, []int{1, 2, 3}},
		{lists{{6}, {2}, {3}, nil, nil, nil, {7}, nil}, []int{0, 1}, []int{3, 7}, []int{0, 6, 7}},
		// A longer one isn't told, however much less its points are.
		{lists{{1, 5}, {2}, {3}, {4}, nil, {4}}, []int{0}, []int{4}, []int{0, 5, 4}},
		{lists{{1}, {2}, {3}, nil, {3}}, []int{0, 4}, []int{3}, []int{4, 3}},
		{lists{{1}, {2}, nil, {4}, nil}, []int{0, 3}, []int{2, 4}, []int{3, 4}},
		{lists{{1, 3}, {2}, nil, nil}, []int{0}, []int{2, 3}, []int{0, 3}},
	}
	for _, c := range cases {
		told(t, c.adj, c.from, c.to, c.want)
	}
}

// ladder tells rungs of two points each, from both of which arcs lead to both of the next rung.
func ladder(rungs int) lists {
	adj := make(lists, 2*rungs)
	for i := range adj[:2*rungs-2] {
		next := i/2*2 + 2
		adj[i] = []int{next, next + 1}
	}
	return adj
}

func TestLeastOfALadder(t *testing.T) {
	for _, rungs := range []int{1, 2, 3, 10, 62, 2048} {
		adj := ladder(rungs)
		want := make([]int, rungs)
		for i := range want {
			want[i] = 2 * i
		}
		last := 2*rungs - 1
		told(t, adj, []int{0, 1}, []int{last - 1, last}, want)
		want[rungs-1] = last
		told(t, adj, []int{0, 1}, []int{last}, want)
		if rungs > 1 {
			want[0] = 1
			told(t, adj, []int{1}, []int{last}, want)
		}
		comes(t, adj, []int{0, 1}, all(2*rungs))
	}
}

func TestNotComeTo(t *testing.T) {
	for _, n := range []int{2, 3, 7, 64, 65, most} {
		adj := row(n)
		last := n - 1
		comes(t, adj, []int{last}, []int{last})
		noWay(t, adj, []int{last}, []int{0})
		noWay(t, adj, []int{last}, all(last))
		noWay(t, adj, all(n)[1:], []int{0})
		bare := make(lists, n)
		comes(t, bare, []int{0, last}, []int{0, last})
		comes(t, bare, all(n), all(n))
		noWay(t, bare, []int{0}, all(n)[1:])
		noWay(t, bare, all(last), []int{last})
	}
	// Arcs lead here alone, and there is nothing that leads back.
	adj := lists{{2}, {2}, nil, {4}, {3}}
	noWay(t, adj, []int{2}, []int{0, 1, 3, 4})
	noWay(t, adj, []int{0, 1, 2}, []int{3, 4})
	noWay(t, adj, []int{3, 4}, []int{0, 1, 2})
	noWay(t, adj, []int{0}, []int{1})
}

func TestRowsAndCircles(t *testing.T) {
	for _, n := range []int{1, 2, 3, 7, 64, 65, 4095, most} {
		last := n - 1
		told(t, row(n), []int{0}, []int{last}, all(n))
		comes(t, row(n), []int{0}, all(n))
		comes(t, row(n), []int{n / 2}, all(n)[n/2:])
		c := circle(n)
		told(t, c, []int{0}, []int{last}, all(n))
		told(t, c, []int{last}, []int{last}, []int{last})
		comes(t, c, []int{n / 2}, all(n))
		comes(t, c, all(n), all(n))
		if n > 2 {
			told(t, c, []int{last}, []int{0}, []int{last, 0})
			told(t, c, []int{1}, []int{0}, append(all(n)[1:], 0))
			told(t, c, []int{0, n / 2}, []int{last}, all(n)[n/2:])
		}
	}
}

func TestArcsToThemselves(t *testing.T) {
	for n := 1; n <= 5; n++ {
		adj := make(lists, n)
		for i := range adj {
			adj[i] = []int{i}
		}
		for p := range n {
			comes(t, adj, []int{p}, []int{p})
			told(t, adj, []int{p}, []int{p}, []int{p})
			if p > 0 {
				noWay(t, adj, []int{p}, all(p))
				noWay(t, adj, all(p), []int{p})
			}
		}
	}
	told(t, lists{{0, 1}, {0, 1, 2}, {2}}, []int{0}, []int{2}, []int{0, 1, 2})
}

func TestArcsBothWays(t *testing.T) {
	for _, n := range []int{2, 3, 10, most} {
		adj := make(lists, n)
		for i := range adj {
			for _, j := range []int{i - 1, i + 1} {
				if j >= 0 && j < n {
					adj[i] = append(adj[i], j)
				}
			}
		}
		back := all(n)
		slices.Reverse(back)
		told(t, adj, []int{0}, []int{n - 1}, all(n))
		told(t, adj, []int{n - 1}, []int{0}, back)
		comes(t, adj, []int{n / 2}, all(n))
	}
	told(t, lists{{1}, {0}, {3}, {2}}, []int{0, 2}, []int{1, 3}, []int{0, 1})
}

func TestNoPoints(t *testing.T) {
	for _, adj := range []lists{nil, {}} {
		for _, from := range [][]int{nil, {}} {
			comes(t, adj, from, nil)
			for _, to := range [][]int{nil, {}} {
				noWay(t, adj, from, to)
			}
		}
		for _, bad := range [][]int{{0}, {-1}, {1}, {0, 0}, {top}, {math.MaxInt}, {math.MinInt}} {
			comes(t, adj, bad, nil)
			noWay(t, adj, bad, nil)
			noWay(t, adj, nil, bad)
			noWay(t, adj, bad, bad)
		}
	}
}

func TestNoneToBeginOrEndAt(t *testing.T) {
	for _, adj := range []lists{make(lists, 1), {{0}}, circle(5), slices.Repeat(lists{all(5)}, 5)} {
		for _, none := range [][]int{nil, {}} {
			comes(t, adj, none, nil)
			noWay(t, adj, none, none)
			noWay(t, adj, none, []int{0})
			noWay(t, adj, []int{0}, none)
			noWay(t, adj, all(len(adj)), none)
			noWay(t, adj, none, all(len(adj)))
		}
	}
}

func TestAllArcs(t *testing.T) {
	for _, n := range []int{1, 2, 3, 64, most} {
		adj := slices.Repeat(lists{all(n)}, n)
		last := n - 1
		comes(t, adj, []int{last}, all(n))
		told(t, adj, []int{last}, []int{last}, []int{last})
		if n > 1 {
			told(t, adj, []int{last}, []int{0}, []int{last, 0})
			told(t, adj, []int{0}, all(n)[1:], []int{0, 1})
			told(t, adj, all(n)[1:], []int{0}, []int{1, 0})
			told(t, adj, all(last), []int{last}, []int{0, last})
		}
	}
}

func TestLimits(t *testing.T) {
	for _, many := range []int{most + 1, most + 2, 5000, 8192, 1 << 16} {
		noDigraph(t, make(lists, many))
		noDigraph(t, row(many))
		noDigraph(t, circle(many))
		noDigraph(t, slices.Repeat(lists{{0}}, many))
	}
	adj := slices.Repeat(lists{{most - 1}}, most)
	told(t, adj, []int{0}, []int{most - 1}, []int{0, most - 1})
	noDigraph(t, adj[1:])
	noDigraph(t, slices.Repeat(lists{{most}}, most))
	comes(t, make(lists, most), []int{most - 1}, []int{most - 1})
	comes(t, make(lists, most), []int{most}, nil)
	comes(t, make(lists, most-1), []int{most - 1}, nil)
}

// noSets are lists that are no sets of n points.
func noSets(n int) lists {
	l := lists{
		{-1}, {-1, 0}, {-2, -1}, {math.MinInt}, {math.MinInt, 0}, {0, -1}, {0, math.MinInt},
		{n}, {n + 1}, {0, n}, {0, n + 1}, {n, n + 1}, {n, 0}, {0, n, 0},
		{top}, {top + 1}, {0, top}, {0, top + 1}, {math.MaxInt}, {0, math.MaxInt}, {1 << 32},
		{0, 0}, {n - 1, n - 1}, {0, 0, n - 1}, {0, n - 1, n - 1},
		append(all(n), n), append(all(n), 0), append(all(n), n-1), append([]int{0}, all(n)...),
		append([]int{-1}, all(n)...), all(n + 1), all(most + 1),
		slices.Repeat([]int{0}, most), slices.Repeat([]int{0}, 100000),
	}
	if n > 1 {
		turned := all(n)
		slices.Reverse(turned)
		l = append(l, []int{1, 0}, []int{n - 1, 0}, turned)
	}
	if n > 2 {
		l = append(l, []int{0, 2, 1}, []int{1, 0, 2}, []int{2, 1, 0}, []int{0, 2, 2}, []int{0, 1, 0}, []int{1, 2, 0})
	}
	return l
}

func TestArcsThatMayNotBe(t *testing.T) {
	for _, n := range []int{1, 2, 3, 5, 64, most} {
		for _, bad := range noSets(n) {
			for _, good := range [][]int{nil, {n - 1}} {
				adj := slices.Repeat(lists{good}, n)
				for _, at := range slices.Compact([]int{0, n / 2, n - 1}) {
					adj[at] = bad
					noDigraph(t, adj)
					adj[at] = good
				}
			}
		}
	}
}

func TestPointsThatMayNotBe(t *testing.T) {
	for _, n := range []int{1, 2, 3, 5, 64, most} {
		for _, adj := range []lists{make(lists, n), row(n), circle(n)} {
			for _, bad := range noSets(n) {
				comes(t, adj, bad, nil)
				refused(t, adj, bad, bad)
				for _, good := range [][]int{nil, {0}, {n - 1}, all(n)} {
					refused(t, adj, bad, good)
					refused(t, adj, good, bad)
				}
			}
		}
	}
}

func TestEachNumberIsAPointOrNot(t *testing.T) {
	for _, n := range []int{1, 2, 3, 10, 64} {
		adj := circle(n)
		for x := -3; x < n+3; x++ {
			arc := make(lists, n)
			arc[n/2] = []int{x}
			if x < 0 || x >= n {
				comes(t, adj, []int{x}, nil)
				refused(t, adj, []int{x}, []int{0})
				refused(t, adj, []int{0}, []int{x})
				noDigraph(t, arc)
				continue
			}
			comes(t, adj, []int{x}, all(n))
			told(t, adj, []int{x}, []int{x}, []int{x})
			told(t, adj, []int{0}, []int{x}, all(x+1))
			if x != n/2 {
				told(t, arc, []int{n / 2}, []int{x}, []int{n / 2, x})
			}
		}
	}
}
