package indep_test

import (
	"math"
	"testing"

	"greenwood/api"
	"greenwood/indep"
)

type (
	kind  = api.Matroid
	lists = [][]int
	inner = []api.Matroid
)

const (
	least    = math.MinInt
	greatest = math.MaxInt
)

// One matroid of each kind.
var (
	uniform  = kind{N: 3, A: 2}
	graph    = kind{Tag: api.Graph, N: 4, A: 3, List: lists{{0, 1}, {1, 2}, {2, 0}, {1, 1}}}
	parts    = kind{Tag: api.Part, N: 5, A: 3, List: lists{{0, 2, 0, 1, 2}, {1, 0, 64}}}
	trans    = kind{Tag: api.Trans, N: 4, A: 3, List: lists{{0}, {0}, {0, 1}, {}}}
	linear   = kind{Tag: api.Linear, N: 4, A: 2, B: 5, List: lists{{1, 2}, {2, 4}, {0, 0}, {0, 1}}}
	restrict = stays(graph, 0, 2, 3)
	contract = goes(graph, 1)
	trunc    = most(1, graph)
	dual     = dualOf(graph)
	sum      = sumOf(graph, trans, uniform)
)

// kinds tells one matroid of each kind.
func kinds() []kind {
	return []kind{uniform, graph, parts, trans, linear, restrict, contract, trunc, dual, sum}
}

// edges tells the matroid of a graph.
func edges(vertices int, ends ...[]int) kind {
	return kind{Tag: api.Graph, N: len(ends), A: vertices, List: ends}
}

// classes tells the matroid of classes, each with its most.
func classes(class []int, most ...int) kind {
	return kind{Tag: api.Part, N: len(class), A: len(most), List: lists{class, most}}
}

// sides tells the matroid of those on the left.
func sides(right int, adj ...[]int) kind {
	return kind{Tag: api.Trans, N: len(adj), A: right, List: adj}
}

// columns tells the matroid of columns modulo a prime.
func columns(p, rows int, cols ...[]int) kind {
	return kind{Tag: api.Linear, N: len(cols), A: rows, B: p, List: cols}
}

// stays tells a matroid of those elements that stay.
func stays(of kind, s ...int) kind {
	return kind{Tag: api.Restrict, N: len(s), List: lists{s}, Inner: inner{of}}
}

// goes tells a matroid of which those elements are contracted.
func goes(of kind, s ...int) kind {
	return kind{Tag: api.Contract, N: of.N - len(s), List: lists{s}, Inner: inner{of}}
}

// most tells a matroid of which a at most are independent.
func most(a int, of kind) kind { return kind{Tag: api.Trunc, N: of.N, A: a, Inner: inner{of}} }

// dualOf tells the dual of a matroid.
func dualOf(of kind) kind { return kind{Tag: api.Dual, N: of.N, Inner: inner{of}} }

// sumOf tells a matroid of several, one behind the other.
func sumOf(l ...kind) kind {
	n := 0
	for _, m := range l {
		n += m.N
	}
	return kind{Tag: api.Sum, N: n, Inner: l}
}

// wrapped tells a matroid with so many sums of one around it.
func wrapped(m kind, many int) kind {
	for range many {
		m = sumOf(m)
	}
	return m
}

// free tells a matroid of so many elements, all of them independent.
func free(n int) kind { return kind{N: n, A: n} }

// rising tells 0 to n - 1.
func rising(n int) []int {
	l := make([]int, n)
	for i := range l {
		l[i] = i
	}
	return l
}

// ranks holds what is told of a set of elements against its rank.
func ranks(t *testing.T, m kind, s []int, want int) {
	t.Helper()
	if !indep.May(m, s) {
		t.Errorf("May(%v, %v): false", m, s)
	}
	if got := indep.Rank(m, s); got != want {
		t.Errorf("Rank(%v, %v): %d, want %d", m, s, got, want)
	}
	if got := indep.Indep(m, s); got != (want == len(s)) {
		t.Errorf("Indep(%v, %v): %v, but its rank is %d", m, s, got, want)
	}
}

// mayNot holds that of these nothing is told but false, and -1.
func mayNot(t *testing.T, m kind, s []int) {
	t.Helper()
	if indep.May(m, s) {
		t.Errorf("May(%v, %v): true", m, s)
	}
	if indep.Indep(m, s) {
		t.Errorf("Indep(%v, %v): true", m, s)
	}
	if got := indep.Rank(m, s); got != -1 {
		t.Errorf("Rank(%v, %v): %d, want -1", m, s, got)
	}
}

func TestExample(t *testing.T) {
	m := edges(3, []int{0, 1}, []int{1, 2}, []int{2, 0})
	ranks(t, m, []int{0, 1}, 2)
	ranks(t, m, []int{0, 1, 2}, 2)
}

func TestEachTag(t *testing.T) {
	all := []int{2, 2, 3, 2, 2, 2, 1, 1, 2, 6}
	for tag, m := range kinds() {
		if m.Tag != tag {
			t.Fatalf("kind %d has tag %d", tag, m.Tag)
		}
		ranks(t, m, nil, 0)
		ranks(t, m, []int{}, 0)
		ranks(t, m, rising(m.N), all[tag])
	}
}

func TestUniform(t *testing.T) {
	for n := range 65 {
		for _, a := range []int{0, 1, n / 2, n - 1, n} {
			if a < 0 || a > n {
				continue
			}
			m := kind{N: n, A: a}
			for many := range n + 1 {
				ranks(t, m, rising(many), min(many, a))
				ranks(t, m, rising(n)[n-many:], min(many, a))
			}
		}
	}
}

func TestGraph(t *testing.T) {
	for _, s := range [][]int{{0}, {1}, {2}} {
		ranks(t, graph, s, 1)
	}
	for _, s := range [][]int{{0, 1}, {0, 2}, {1, 2}, {0, 1, 2}, {0, 1, 2, 3}, {1, 2, 3}} {
		ranks(t, graph, s, 2)
	}
	// An edge of one vertex alone.
	ranks(t, graph, []int{3}, 0)
	ranks(t, graph, []int{0, 3}, 1)
	ranks(t, edges(1, []int{0, 0}, []int{0, 0}), []int{0, 1}, 0)
	// An edge twice, also the other way round.
	twice := edges(4, []int{0, 1}, []int{0, 1}, []int{1, 0}, []int{3, 2})
	ranks(t, twice, []int{0, 1}, 1)
	ranks(t, twice, []int{0, 2}, 1)
	ranks(t, twice, []int{1, 3}, 2)
	ranks(t, twice, []int{0, 1, 2, 3}, 2)
	// Circles of four, and two that share an edge.
	circle := edges(5, []int{0, 1}, []int{2, 1}, []int{2, 3}, []int{0, 3}, []int{1, 3})
	ranks(t, circle, []int{0, 1, 2, 3}, 3)
	ranks(t, circle, []int{0, 1, 2}, 3)
	ranks(t, circle, []int{0, 3, 4}, 2)
	ranks(t, circle, []int{1, 2, 4}, 2)
	ranks(t, circle, []int{0, 1, 4}, 3)
	ranks(t, circle, rising(5), 3)
	// Circles that are apart.
	ranks(t, edges(6, []int{0, 1}, []int{1, 2}, []int{2, 0}, []int{3, 4}, []int{4, 5}, []int{5, 3}), rising(6), 4)
	ranks(t, edges(1), nil, 0)
}

func TestPart(t *testing.T) {
	// Classes 0, 2, 0, 1, 2, of which 1, 0 and 64 at most.
	for _, c := range []struct {
		s    []int
		rank int
	}{
		{[]int{0}, 1}, {[]int{0, 2}, 1}, {[]int{2}, 1}, {[]int{3}, 0}, {[]int{0, 3}, 1}, {[]int{1, 4}, 2}, {[]int{0, 1, 4}, 3},
		{[]int{0, 1, 2, 4}, 3}, {[]int{1, 3, 4}, 2}, {[]int{2, 3}, 1}, {rising(5), 3},
	} {
		ranks(t, parts, c.s, c.rank)
	}
	none := classes([]int{0, 0, 1}, 0, 0)
	ranks(t, none, []int{0}, 0)
	ranks(t, none, []int{0, 1, 2}, 0)
	few := classes([]int{1, 1, 1, 1, 0}, 5, 3)
	for many := range 5 {
		ranks(t, few, rising(many), min(many, 3))
	}
	ranks(t, few, []int{1, 2, 3, 4}, 4)
	ranks(t, few, rising(5), 4)
	ranks(t, classes(nil), nil, 0)
	ranks(t, classes(nil, 7, 0), nil, 0)
}

func TestTrans(t *testing.T) {
	for _, c := range []struct {
		s    []int
		rank int
	}{
		{[]int{0}, 1}, {[]int{0, 1}, 1}, {[]int{0, 2}, 2}, {[]int{1, 2}, 2}, {[]int{2}, 1}, {[]int{0, 1, 2}, 2},
		{[]int{3}, 0}, {[]int{2, 3}, 1}, {[]int{0, 2, 3}, 2}, {rising(4), 2},
	} {
		ranks(t, trans, c.s, c.rank)
	}
	// Each must give way to the next one.
	chain := sides(4, []int{0, 1}, []int{0, 2}, []int{0, 3}, []int{0})
	ranks(t, chain, rising(4), 4)
	// Three have two on the right.
	three := sides(5, []int{1, 4}, []int{1, 4}, []int{1, 4}, []int{0, 1, 4})
	ranks(t, three, []int{0, 1, 2}, 2)
	ranks(t, three, []int{0, 1, 3}, 3)
	ranks(t, three, rising(4), 3)
	ranks(t, sides(0), nil, 0)
	ranks(t, sides(0, nil, []int{}), []int{0, 1}, 0)
	ranks(t, sides(64), nil, 0)
}

func TestLinear(t *testing.T) {
	for _, c := range []struct {
		s    []int
		rank int
	}{
		{[]int{0}, 1}, {[]int{0, 1}, 1}, {[]int{0, 3}, 2}, {[]int{1, 3}, 2}, {[]int{2}, 0}, {[]int{0, 2}, 1}, {[]int{0, 1, 2}, 1}, {rising(4), 2},
	} {
		ranks(t, linear, c.s, c.rank)
	}
	// What comes to 0 modulo 2 does not so modulo 3.
	circle := lists{{1, 1, 0}, {0, 1, 1}, {1, 0, 1}}
	ranks(t, columns(2, 3, circle...), rising(3), 2)
	ranks(t, columns(2, 3, circle...), []int{0, 2}, 2)
	ranks(t, columns(3, 3, circle...), rising(3), 3)
	// The same column twice, and one of zeros.
	ranks(t, columns(2, 2, []int{1, 1}, []int{1, 1}, []int{0, 0}), []int{0, 1}, 1)
	ranks(t, columns(2, 2, []int{1, 1}, []int{1, 1}, []int{0, 0}), []int{2}, 0)
	ranks(t, columns(2, 2, []int{1, 1}, []int{1, 1}, []int{0, 0}), rising(3), 1)
	// Of no rows all are 0.
	ranks(t, columns(2, 0, nil, []int{}), []int{0, 1}, 0)
	ranks(t, columns(2, 64), nil, 0)
	// Modulo the greatest prime that there is.
	p := 1<<31 - 1
	ranks(t, columns(p, 2, []int{p - 1, 1}, []int{1, p - 1}, []int{1, p - 2}), []int{0, 1}, 1)
	ranks(t, columns(p, 2, []int{p - 1, 1}, []int{1, p - 1}, []int{1, p - 2}), []int{0, 2}, 2)
}

func TestRestrict(t *testing.T) {
	// Edges 0-1, 2-0 and 1-1 stay.
	ranks(t, restrict, []int{0}, 1)
	ranks(t, restrict, []int{0, 1}, 2)
	ranks(t, restrict, []int{2}, 0)
	ranks(t, restrict, []int{1, 2}, 1)
	ranks(t, restrict, rising(3), 2)
	ranks(t, stays(graph), nil, 0)
	ranks(t, stays(graph), []int{}, 0)
	ranks(t, stays(free(0)), nil, 0)
	all := stays(graph, 0, 1, 2, 3)
	ranks(t, all, []int{3}, 0)
	ranks(t, all, []int{0, 1, 2}, 2)
	ranks(t, all, rising(4), 2)
	// Places, and not elements.
	ranks(t, stays(graph, 3), []int{0}, 0)
	ranks(t, stays(parts, 1, 3, 4), []int{1}, 0)
	ranks(t, stays(parts, 1, 3, 4), []int{0, 2}, 2)
}

func TestContract(t *testing.T) {
	// Edge 1-2 goes: edges 0-1 and 2-0 are the same, 1-1 has one vertex alone.
	ranks(t, contract, []int{0}, 1)
	ranks(t, contract, []int{1}, 1)
	ranks(t, contract, []int{2}, 0)
	ranks(t, contract, []int{0, 1}, 1)
	ranks(t, contract, rising(3), 1)
	none := goes(graph)
	ranks(t, none, []int{0, 1}, 2)
	ranks(t, none, rising(4), 2)
	ranks(t, none, []int{3}, 0)
	ranks(t, goes(graph, 0, 1, 2, 3), nil, 0)
	ranks(t, goes(graph, 0, 1, 2, 3), []int{}, 0)
	ranks(t, goes(free(0)), nil, 0)
	ranks(t, goes(free(5), 0, 3), rising(3), 3)
	ranks(t, goes(kind{N: 5, A: 3}, 0, 3), rising(3), 1)
	ranks(t, goes(kind{N: 5}, 0, 3), rising(3), 0)
}

func TestContractOfWhatIsNotIndependent(t *testing.T) {
	// Edge 1-1 goes for nothing.
	loop := goes(graph, 3)
	ranks(t, loop, []int{0}, 1)
	ranks(t, loop, []int{0, 1}, 2)
	ranks(t, loop, rising(3), 2)
	// A whole circle goes, which is as two of its edges.
	of := edges(5, []int{0, 1}, []int{1, 2}, []int{2, 0}, []int{0, 3}, []int{2, 3}, []int{3, 4})
	circle := goes(of, 0, 1, 2)
	ranks(t, circle, []int{0}, 1)
	ranks(t, circle, []int{1}, 1)
	ranks(t, circle, []int{0, 1}, 1)
	ranks(t, circle, []int{0, 2}, 2)
	ranks(t, circle, rising(3), 2)
	// More of a class than there may be.
	ranks(t, goes(classes([]int{0, 0, 0, 1}, 2, 1), 0, 1, 2), []int{0}, 1)
	ranks(t, goes(classes([]int{0, 0, 0, 0}, 3), 0, 1), []int{0, 1}, 1)
	ranks(t, goes(kind{N: 5, A: 2}, 0, 1, 2), []int{0, 1}, 0)
	// Two that have one on the right.
	ranks(t, goes(trans, 0, 1), []int{0}, 1)
	ranks(t, goes(trans, 0, 1), []int{0, 1}, 1)
	ranks(t, goes(linear, 0, 1, 2), []int{0}, 1)
}

func TestTrunc(t *testing.T) {
	for a := range 6 {
		m := most(a, graph)
		ranks(t, m, []int{3}, 0)
		ranks(t, m, []int{0}, min(a, 1))
		ranks(t, m, []int{0, 3}, min(a, 1))
		ranks(t, m, []int{0, 1}, min(a, 2))
		ranks(t, m, rising(4), min(a, 2))
	}
	ranks(t, most(0, free(3)), rising(3), 0)
	ranks(t, most(0, free(3)), nil, 0)
	ranks(t, most(64, free(3)), rising(3), 3)
	ranks(t, most(64, free(0)), nil, 0)
	// Of what is independent A at most, and not of all.
	ranks(t, most(2, classes([]int{0, 0, 0, 1}, 1, 1)), []int{0, 1, 2}, 1)
	ranks(t, most(2, classes([]int{0, 0, 0, 1}, 1, 1)), rising(4), 2)
	ranks(t, most(2, most(3, free(5))), rising(5), 2)
	ranks(t, most(3, most(2, free(5))), rising(5), 2)
}

func TestDual(t *testing.T) {
	// Whatever is left has to have two edges of the circle.
	ranks(t, dual, []int{0}, 1)
	ranks(t, dual, []int{3}, 1)
	ranks(t, dual, []int{0, 1}, 1)
	ranks(t, dual, []int{1, 3}, 2)
	ranks(t, dual, []int{0, 1, 2}, 1)
	ranks(t, dual, rising(4), 2)
	// A bridge is never to go.
	bridge := dualOf(edges(4, []int{0, 1}, []int{1, 2}, []int{2, 0}, []int{2, 3}))
	ranks(t, bridge, []int{3}, 0)
	ranks(t, bridge, []int{0, 3}, 1)
	for n := range 8 {
		for a := range n + 1 {
			for many := range n + 1 {
				ranks(t, dualOf(kind{N: n, A: a}), rising(many), min(many, n-a))
				ranks(t, dualOf(dualOf(kind{N: n, A: a})), rising(many), min(many, a))
			}
		}
	}
	for _, m := range kinds() {
		if m.Tag == api.Sum {
			continue
		}
		for mask := range 1 << m.N {
			s := masked(mask)
			ranks(t, dualOf(dualOf(m)), s, indep.Rank(m, s))
		}
	}
}

func TestSum(t *testing.T) {
	// Elements 0 to 3 are the graph's, 4 to 7 those of the sides, 8 to 10 the uniform one's.
	for _, c := range []struct {
		s    []int
		rank int
	}{
		{[]int{3}, 0}, {[]int{4}, 1}, {[]int{7}, 0}, {[]int{8}, 1}, {[]int{10}, 1}, {[]int{0, 1, 2}, 2}, {[]int{2, 3, 4}, 2}, {[]int{4, 5}, 1},
		{[]int{0, 1, 4, 6, 8, 9}, 6}, {[]int{8, 9, 10}, 2}, {[]int{0, 10}, 2}, {rising(11), 6},
	} {
		ranks(t, sum, c.s, c.rank)
	}
	for _, m := range kinds() {
		if m.Tag == api.Sum {
			continue
		}
		for mask := range 1 << m.N {
			s := masked(mask)
			rank := indep.Rank(m, s)
			ranks(t, sumOf(m), s, rank)
			// One that has no elements, ahead, behind and between.
			ranks(t, sumOf(free(0), m, sides(3)), s, rank)
			ranks(t, sumOf(m, edges(2), classes(nil, 4)), s, rank)
			ranks(t, sumOf(kind{N: 1}, stays(graph), m), masked(mask<<1|1), rank)
			ranks(t, sumOf(m, free(0), free(1)), masked(mask|1<<m.N), rank+1)
		}
	}
	none := []kind{free(0), edges(1), classes(nil), sides(0), columns(2, 0), stays(graph), goes(free(0)), dualOf(free(0))}
	ranks(t, sumOf(none...), nil, 0)
	ranks(t, sumOf(uniform, kind{N: 2}, uniform), rising(8), 4)
	ranks(t, sumOf(uniform, kind{N: 2}, uniform), []int{3, 4}, 0)
	ranks(t, sumOf(uniform, kind{N: 2}, uniform), []int{2, 5}, 2)
}
