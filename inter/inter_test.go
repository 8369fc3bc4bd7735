package inter_test

import (
	"slices"
	"testing"

	"greenwood/api"
	"greenwood/indep"
	"greenwood/inter"
	"greenwood/set"
)

type (
	kind  = api.Matroid
	lists = [][]int
)

// free tells the matroid of n elements in which each set is independent.
func free(n int) kind { return kind{N: n, A: n} }

// dualOf tells the dual of a matroid.
func dualOf(m kind) kind { return kind{Tag: api.Dual, N: m.N, Inner: []kind{m}} }

// classes tells the matroid of classes, of each of which one is taken.
func classes(class ...int) kind {
	many := slices.Max(class) + 1
	return kind{Tag: api.Part, N: len(class), A: many, List: lists{class, slices.Repeat([]int{1}, many)}}
}

// pairs tells the two matroids of edges between two sides, each told by its ends: their common sets are the matchings.
func pairs(edges ...[2]int) (kind, kind) {
	var left, right []int
	for _, e := range edges {
		left, right = append(left, e[0]), append(right, e[1])
	}
	return classes(left...), classes(right...)
}

// graph tells the matroid of a circle of three, an edge of one vertex alone, and two edges of no circle.
func graph() kind {
	return kind{Tag: api.Graph, N: 6, A: 5, List: lists{{0, 1}, {1, 2}, {2, 0}, {1, 1}, {2, 3}, {3, 4}}}
}

// wide tells the matroid of a circle of three, an edge twice, one of no circle, and two of one vertex alone.
func wide() kind {
	return kind{Tag: api.Graph, N: 8, A: 5, List: lists{{0, 1}, {1, 2}, {2, 0}, {1, 1}, {2, 3}, {3, 2}, {3, 4}, {0, 0}}}
}

// one is a matroid, and what is known of it.
type one struct {
	m      kind
	base   []int // the least one
	never  []int // those that no base has
	always []int // those that each base has
}

// ofEachTag tells one of six elements of each tag, in their order, each time in new memory.
func ofEachTag() []one {
	return []one{
		{kind{N: 6, A: 2}, []int{0, 1}, nil, nil},
		{graph(), []int{0, 1, 4, 5}, []int{3}, []int{4, 5}},
		{kind{Tag: api.Part, N: 6, A: 3, List: lists{{0, 2, 0, 1, 2, 2}, {1, 0, 3}}}, []int{0, 1, 4, 5}, []int{3}, []int{1, 4, 5}},
		{kind{Tag: api.Trans, N: 6, A: 4, List: lists{{0}, {0, 1}, {}, {1}, {1, 2}, {3}}}, []int{0, 1, 4, 5}, []int{2}, []int{4, 5}},
		{kind{Tag: api.Linear, N: 6, A: 3, B: 5, List: lists{{1, 0, 2}, {2, 0, 4}, {0, 0, 0}, {0, 1, 0}, {1, 1, 2}, {0, 0, 1}}}, []int{0, 3, 5}, []int{2}, []int{5}},
		{kind{Tag: api.Restrict, N: 6, List: lists{{0, 1, 2, 4, 6, 7}}, Inner: []kind{wide()}}, []int{0, 1, 3, 4}, []int{5}, []int{3, 4}},
		{kind{Tag: api.Contract, N: 6, List: lists{{1, 3}}, Inner: []kind{wide()}}, []int{0, 2, 4}, []int{5}, []int{4}},
		{kind{Tag: api.Trunc, N: 6, A: 3, Inner: []kind{graph()}}, []int{0, 1, 4}, []int{3}, nil},
		{dualOf(graph()), []int{0, 3}, []int{4, 5}, []int{3}},
		{kind{Tag: api.Sum, N: 6, Inner: []kind{{N: 2, A: 1}, {Tag: api.Graph, N: 4, A: 3, List: lists{{0, 1}, {1, 0}, {1, 2}, {2, 2}}}}}, []int{0, 2, 4}, []int{5}, []int{4}},
	}
}

// tells holds what is told of two matroids against what is wanted, and that the one proves the other.
func tells(t *testing.T, a, b kind, s, u []int) {
	t.Helper()
	gotS, gotU, e := inter.Max(a, b)
	if e != api.OK || !slices.Equal(gotS, s) || !slices.Equal(gotU, u) {
		t.Errorf("Max(%v, %v): %v, %v, %d, want %v, %v", a, b, gotS, gotU, e, s, u)
	}
	proves(t, a, b, gotS, gotU)
}

// proves holds that a set is independent in both matroids, and has as many elements as a Bound.
func proves(t *testing.T, a, b kind, s, u []int) {
	t.Helper()
	if !indep.Indep(a, s) || !indep.Indep(b, s) {
		t.Errorf("%v is no common set of %v and %v", s, a, b)
	}
	bounds(t, a, b, u, len(s))
}

// bounds holds the Bound of a set, and that of all others, if the two matroids are changed about.
func bounds(t *testing.T, a, b kind, u []int, want int) {
	t.Helper()
	if got := inter.Bound(a, b, u); got != want {
		t.Errorf("Bound(%v, %v, %v): %d, want %d", a, b, u, got, want)
	}
	if got := inter.Bound(b, a, set.Minus(set.All(a.N), u)); got != want {
		t.Errorf("Bound(%v, %v, all but %v): %d, want %d", b, a, u, got, want)
	}
}

func TestExample(t *testing.T) {
	two, one := kind{N: 3, A: 2}, kind{N: 3, A: 1}
	tells(t, two, one, []int{0}, nil)
	tells(t, one, two, []int{0}, []int{0, 1, 2})
	bounds(t, two, one, nil, 1)
}

func TestEachTagAndFree(t *testing.T) {
	all := set.All(6)
	for tag, c := range ofEachTag() {
		if c.m.Tag != tag {
			t.Fatalf("%v is in the place of tag %d", c.m, tag)
		}
		// In the first one nothing may be added to a base: one comes to nobody.
		tells(t, c.m, free(6), c.base, all)
		// All others may be added: one comes to all whom one of them may stand for.
		tells(t, free(6), c.m, c.base, c.always)
	}
}

func TestEachTagAndUniform(t *testing.T) {
	all := set.All(6)
	for _, c := range ofEachTag() {
		for k := range 7 {
			m := kind{N: 6, A: k}
			many := min(k, len(c.base))
			// What may be added, alone or for another one, is come to, and that's all but what never may.
			there, back := c.never, all
			if k >= len(c.base) {
				there = all
			}
			if k > len(c.base) {
				back = c.always
			}
			tells(t, c.m, m, c.base[:many], there)
			tells(t, m, c.m, c.base[:many], back)
		}
	}
}

func TestSameMatroid(t *testing.T) {
	for _, c := range ofEachTag() {
		tells(t, c.m, c.m, c.base, set.All(6))
		tells(t, c.m, dualOf(dualOf(c.m)), c.base, set.All(6))
		tells(t, dualOf(dualOf(c.m)), c.m, c.base, set.All(6))
	}
}

func TestMatroidAndItsDual(t *testing.T) {
	all := set.All(6)
	two := kind{N: 6, A: 2}
	tells(t, two, dualOf(two), []int{0, 1}, all)
	tells(t, dualOf(two), two, []int{0, 1}, nil)
	// One edge of the circle may go, and the one that may be added there is independent nowhere else: base of neither.
	tells(t, graph(), dualOf(graph()), []int{0}, []int{3})
	tells(t, dualOf(graph()), graph(), []int{0}, []int{0, 1, 2, 4, 5})
	// A tree, such that the other edges are one, too.
	whole := kind{Tag: api.Graph, N: 6, A: 4, List: lists{{0, 1}, {0, 2}, {0, 3}, {1, 2}, {1, 3}, {2, 3}}}
	tells(t, whole, dualOf(whole), []int{0, 1, 4}, all)
	tells(t, dualOf(whole), whole, []int{0, 1, 4}, all)
	circle := kind{Tag: api.Graph, N: 3, A: 3, List: lists{{0, 1}, {1, 2}, {2, 0}}}
	tells(t, circle, dualOf(circle), []int{0}, nil)
	tells(t, dualOf(circle), circle, []int{0}, []int{0, 1, 2})
	for n := range 7 {
		tells(t, free(n), dualOf(free(n)), nil, nil)
		tells(t, dualOf(free(n)), free(n), nil, set.All(n))
	}
}

func TestBases(t *testing.T) {
	// Of both.
	tells(t, graph(), kind{N: 6, A: 4}, []int{0, 1, 4, 5}, set.All(6))
	tells(t, free(3), free(3), []int{0, 1, 2}, []int{0, 1, 2})
	// Of one.
	tells(t, graph(), kind{N: 6, A: 2}, []int{0, 1}, []int{3})
	tells(t, kind{N: 6, A: 2}, graph(), []int{0, 1}, set.All(6))
	// Of neither: one of 0 1 in the one, one of 2 3 in the other one.
	first, second := classes(0, 0, 1, 2), classes(0, 1, 2, 2)
	tells(t, first, second, []int{0, 2}, []int{0, 1})
	tells(t, second, first, []int{0, 2}, []int{2, 3})
	bounds(t, first, second, nil, 3)
	bounds(t, first, second, set.All(4), 3)
}

func TestMatchings(t *testing.T) {
	// 0 is taken first, and must give way to 1 and 2.
	left, right := pairs([2]int{1, 0}, [2]int{0, 0}, [2]int{1, 1})
	tells(t, left, right, []int{1, 2}, []int{0, 1, 2})
	tells(t, right, left, []int{1, 2}, []int{0, 1, 2})
	// Two and two, each with each.
	left, right = pairs([2]int{0, 0}, [2]int{1, 0}, [2]int{0, 1}, [2]int{1, 1})
	tells(t, left, right, []int{0, 3}, set.All(4))
	tells(t, right, left, []int{0, 3}, set.All(4))
	// Three on the left have one on the right, who could have another one.
	left, right = pairs([2]int{0, 0}, [2]int{1, 0}, [2]int{2, 0}, [2]int{0, 1}, [2]int{0, 2})
	tells(t, left, right, []int{1, 3}, []int{0, 3, 4})
	tells(t, right, left, []int{1, 3}, []int{0, 1, 2})
	// Nobody but one on either side.
	left, right = pairs([2]int{0, 0}, [2]int{0, 0}, [2]int{0, 0})
	tells(t, left, right, []int{0}, set.All(3))
}

func TestOneOfSeveral(t *testing.T) {
	for n := 1; n < 8; n++ {
		tells(t, kind{N: n, A: 1}, kind{N: n, A: 1}, []int{0}, set.All(n))
	}
	// The ways 2 0 5 and 3 1 4 are as short: the one is less at its start, the other one at its end.
	left, right := pairs([2]int{0, 0}, [2]int{1, 1}, [2]int{2, 0}, [2]int{2, 1}, [2]int{1, 2}, [2]int{0, 2})
	tells(t, left, right, []int{1, 2, 5}, set.All(6))
	tells(t, right, left, []int{0, 3, 4}, set.All(6))
	// From 1 and 2 by 0 to 3 and 4.
	left, right = pairs([2]int{0, 0}, [2]int{1, 0}, [2]int{1, 0}, [2]int{0, 1}, [2]int{0, 1})
	tells(t, left, right, []int{1, 3}, set.All(5))
	tells(t, right, left, []int{1, 3}, set.All(5))
	// 3 alone is a shorter way than 1 0 2.
	left, right = pairs([2]int{0, 0}, [2]int{1, 0}, [2]int{0, 1}, [2]int{1, 1})
	tells(t, left, right, []int{0, 3}, set.All(4))
	// A tree of three colours: each of the two of a colour would do.
	star := kind{Tag: api.Graph, N: 6, A: 4, List: lists{{0, 1}, {0, 1}, {0, 2}, {0, 2}, {0, 3}, {0, 3}}}
	tells(t, star, classes(0, 1, 1, 0, 2, 2), []int{0, 2, 4}, set.All(6))
	tells(t, star, classes(0, 1, 0, 2, 1, 2), []int{0, 3, 4}, set.All(6))
}

// row tells the two matroids of elements in a row, of which each two neighbours are one's pair, or the other one's.
func row(l []int) (kind, kind) {
	a, b := make([]int, len(l)), make([]int, len(l))
	for i, x := range l {
		a[x], b[x] = (i+1)/2, i/2
	}
	return classes(a...), classes(b...)
}

// between tells so many numbers in the places 1, 3 and so on, and the ones behind them in the places 0, 2 and so on.
func between(many int) []int {
	var l []int
	for x := range many {
		l = append(l, many+x, x)
	}
	return append(l, 2*many)
}

func TestLongWays(t *testing.T) {
	// Those in between are taken one by one; then the only way leads along all.
	for many := range 12 {
		l := between(many)
		a, b := row(l)
		late := set.All(2*many + 1)[many:]
		tells(t, a, b, late, set.All(len(l)))
		tells(t, b, a, late, set.All(len(l)))
		slices.Reverse(l)
		a, b = row(l)
		tells(t, a, b, late, set.All(len(l)))
	}
	// Without its last element the row has no way: who is at the start, and all behind, is come to.
	a, b := row([]int{2, 0, 3, 1})
	tells(t, a, b, []int{0, 1}, nil)
	tells(t, b, a, []int{0, 1}, set.All(4))
}

func TestSeveralLongWays(t *testing.T) {
	// Rows of 3 and of 5, one behind the other: each is turned along its own way, the shorter one ahead.
	left3, right3 := row(between(1))
	left5, right5 := row(between(2))
	sum := func(l ...kind) kind { return kind{Tag: api.Sum, N: 8, Inner: l} }
	tells(t, sum(left3, left5), sum(right3, right5), []int{1, 2, 5, 6, 7}, set.All(8))
	tells(t, sum(left5, left3), sum(right5, right3), []int{2, 3, 4, 6, 7}, set.All(8))
	tells(t, sum(right5, left3), sum(left5, right3), []int{2, 3, 4, 6, 7}, set.All(8))
}
