package split_test

import (
	"slices"
	"testing"

	"greenwood/api"
	"greenwood/greedy"
	"greenwood/indep"
	"greenwood/inter"
	"greenwood/set"
	"greenwood/split"
)

type (
	kind  = api.Matroid
	lists = [][]int
	parts = api.Split
)

// one tells a split of a set, and these weights.
func one(s, a, b []int) parts { return parts{S: s, A: a, B: b} }

// free tells the matroid of n elements in which each set is independent.
func free(n int) kind { return kind{N: n, A: n} }

// dualOf tells the dual of a matroid.
func dualOf(m kind) kind { return kind{Tag: api.Dual, N: m.N, Inner: []kind{m}} }

// classes tells the matroid of classes, of each of which one is taken.
func classes(class ...int) kind {
	many := slices.Max(class) + 1
	return kind{Tag: api.Part, N: len(class), A: many, List: lists{class, slices.Repeat([]int{1}, many)}}
}

// pairs tells the two matroids of edges between two sides, each told by its ends: their common sets are the matchings.
func pairs(edges ...[2]int) (kind, kind) {
	var left, right []int
	for _, e := range edges {
		left, right = append(left, e[0]), append(right, e[1])
	}
	return classes(left...), classes(right...)
}

// but tells the free matroid of n elements but for some, that are independent nowhere.
func but(n int, never ...int) kind {
	class := make([]int, n)
	for _, x := range never {
		class[x] = 1
	}
	return kind{Tag: api.Part, N: n, A: 2, List: lists{class, {n, 0}}}
}

// graph tells the matroid of a circle of three, an edge of one vertex alone, and two edges of no circle.
func graph() kind {
	return kind{Tag: api.Graph, N: 6, A: 5, List: lists{{0, 1}, {1, 2}, {2, 0}, {1, 1}, {2, 3}, {3, 4}}}
}

// wide tells the matroid of a circle of three, an edge twice, one of no circle, and two of one vertex alone.
func wide() kind {
	return kind{Tag: api.Graph, N: 8, A: 5, List: lists{{0, 1}, {1, 2}, {2, 0}, {1, 1}, {2, 3}, {3, 2}, {3, 4}, {0, 0}}}
}

// ofEachTag tells one of six elements of each tag, in their order, each time in new memory.
func ofEachTag() []kind {
	return []kind{
		{N: 6, A: 2},
		graph(),
		{Tag: api.Part, N: 6, A: 3, List: lists{{0, 2, 0, 1, 2, 2}, {1, 0, 3}}},
		{Tag: api.Trans, N: 6, A: 4, List: lists{{0}, {0, 1}, {}, {1}, {1, 2}, {3}}},
		{Tag: api.Linear, N: 6, A: 3, B: 5, List: lists{{1, 0, 2}, {2, 0, 4}, {0, 0, 0}, {0, 1, 0}, {1, 1, 2}, {0, 0, 1}}},
		{Tag: api.Restrict, N: 6, List: lists{{0, 1, 2, 4, 6, 7}}, Inner: []kind{wide()}},
		{Tag: api.Contract, N: 6, List: lists{{1, 3}}, Inner: []kind{wide()}},
		{Tag: api.Trunc, N: 6, A: 3, Inner: []kind{graph()}},
		dualOf(graph()),
		{Tag: api.Sum, N: 6, Inner: []kind{{N: 2, A: 1}, {Tag: api.Graph, N: 4, A: 3, List: lists{{0, 1}, {1, 0}, {1, 2}, {2, 2}}}}},
	}
}

// weightsOfSix tells weights of six elements: all the same, all 0, all below 0, of both signs, such that no two sets are
// as heavy, and at the limits.
func weightsOfSix() lists {
	const most = 1 << 31
	return lists{
		{7, 7, 7, 7, 7, 7}, {0, 0, 0, 0, 0, 0}, {-1, -1, -1, -1, -1, -1},
		{0, 1, 2, 3, 4, 5}, {5, 4, 3, 2, 1, 0}, {-6, -5, -4, -3, -2, -1}, {-1, -2, -1, -2, -1, -3},
		{1, 2, 4, 8, 16, 32}, {-32, 16, -8, 4, -2, 1}, {9, -1, 9, -1, 9, -1}, {1, 0, 0, 1, 0, -1}, {3, 1, 4, 1, 5, 9}, {2, 2, 1, 9, 2, 1},
		{most, most, most, most, most, most}, {-most, -most, -most, -most, -most, -most}, {most, -most, most, -most, 0, 1}, {-most, 1 - most, most - 1, most, -1, 0},
	}
}

// alike tells whether two lists of splits are the same.
func alike(a, b []parts) bool {
	return slices.EqualFunc(a, b, func(x, y parts) bool {
		return slices.Equal(x.S, y.S) && slices.Equal(x.A, y.A) && slices.Equal(x.B, y.B)
	})
}

// tells holds what is told of two matroids against what is wanted, and what follows of it.
func tells(t *testing.T, a, b kind, w []int, want ...parts) {
	t.Helper()
	if got := provedUpTo(t, a, b, w, len(want)-1); !alike(got, want) {
		t.Errorf("All(%v, %v, %v): %v, want %v", a, b, w, got, want)
	}
}

// proved tells what is told of two matroids, and holds what follows of it.
func proved(t *testing.T, a, b kind, w []int) []parts {
	t.Helper()
	s, _, _ := inter.Max(a, b)
	return provedUpTo(t, a, b, w, len(s))
}

// provedUpTo tells likewise what is told of two matroids, whose greatest common set has so many elements.
func provedUpTo(t *testing.T, a, b kind, w []int, many int) []parts {
	t.Helper()
	l, e := split.All(a, b, w)
	if e != api.OK || !split.May(a, b, w) {
		t.Errorf("All(%v, %v, %v): %d, and May: %v", a, b, w, e, split.May(a, b, w))
	}
	if len(l) != many+1 {
		t.Errorf("All(%v, %v, %v) tells %d sets, the greatest one has %d", a, b, w, len(l), many)
	}
	for k, s := range l {
		proves(t, a, b, w, k, s)
	}
	return l
}

// proves holds that a split tells a common set of k, that its weights come to these, and that it is heaviest by either.
func proves(t *testing.T, a, b kind, w []int, k int, s parts) {
	t.Helper()
	if len(s.S) != k || !indep.Indep(a, s.S) || !indep.Indep(b, s.S) {
		t.Errorf("%v is no common set of %d of %v and %v", s.S, k, a, b)
	}
	if len(s.A) != len(w) || len(s.B) != len(w) {
		t.Fatalf("%v and %v are weights of %d elements", s.A, s.B, len(w))
	}
	for x := range w {
		if s.A[x]+s.B[x] != w[x] {
			t.Errorf("%v and %v come not to %v", s.A, s.B, w)
		}
	}
	for _, side := range []struct {
		m kind
		w []int
	}{{a, s.A}, {b, s.B}} {
		if best := greedy.Take(side.m, side.w, k); len(best) != k || greedy.Weight(side.w, s.S) != greedy.Weight(side.w, best) {
			t.Errorf("%v is lighter than %v in %v, by %v", s.S, best, side.m, side.w)
		}
	}
}

// likeGreedy holds that the sets up to so many are those that are taken one by one in one matroid, with no weights in the
// other one.
func likeGreedy(t *testing.T, a, b, m kind, w []int, many int) {
	t.Helper()
	var want []parts
	for k := range many + 1 {
		want = append(want, one(greedy.Take(m, w, k), w, make([]int, len(w))))
	}
	tells(t, a, b, w, want...)
}

func TestExample(t *testing.T) {
	m, w, none := kind{N: 2, A: 1}, []int{3, 5}, []int{0, 0}
	tells(t, m, m, w, one(nil, w, none), one([]int{1}, w, none))
}

func TestTagsInOrder(t *testing.T) {
	for tag, m := range ofEachTag() {
		if m.Tag != tag {
			t.Fatalf("%v is in the place of tag %d", m, tag)
		}
	}
}

func TestEachTagAndFree(t *testing.T) {
	for _, m := range ofEachTag() {
		rank := indep.Rank(m, set.All(6))
		for _, w := range weightsOfSix() {
			// All may be added in the other one: whoever counts in the first one is taken.
			likeGreedy(t, m, free(6), m, w, rank)
			proved(t, free(6), m, w)
			for k := range rank + 1 {
				likeGreedy(t, m, kind{N: 6, A: k}, m, w, k)
				proved(t, kind{N: 6, A: k}, m, w)
			}
		}
	}
}

func TestSameMatroid(t *testing.T) {
	for _, m := range ofEachTag() {
		rank := indep.Rank(m, set.All(6))
		for _, w := range weightsOfSix() {
			likeGreedy(t, m, m, m, w, rank)
			likeGreedy(t, m, dualOf(dualOf(m)), m, w, rank)
			likeGreedy(t, dualOf(dualOf(m)), m, m, w, rank)
		}
	}
}

func TestMatroidAndItsDual(t *testing.T) {
	for _, m := range ofEachTag() {
		for _, w := range weightsOfSix() {
			proved(t, m, dualOf(m), w)
			proved(t, dualOf(m), m, w)
		}
	}
	// An edge of a circle, and all others of it.
	circle := kind{Tag: api.Graph, N: 3, A: 3, List: lists{{0, 1}, {1, 2}, {2, 0}}}
	w, none := []int{-4, 7, 7}, []int{0, 0, 0}
	tells(t, circle, dualOf(circle), w, one(nil, w, none), one([]int{1}, w, none))
	tells(t, dualOf(circle), circle, w, one(nil, w, none), one([]int{1}, w, none))
	for n := range 7 {
		w := make([]int, n)
		tells(t, free(n), dualOf(free(n)), w, one(nil, w, w))
		tells(t, dualOf(free(n)), free(n), w, one(nil, w, w))
	}
}

func TestChangedAbout(t *testing.T) {
	// No two sets are as heavy: the sets are the same ones, whatever the weights are split into.
	for _, a := range ofEachTag() {
		for _, b := range ofEachTag() {
			for _, w := range [][]int{{1, 2, 4, 8, 16, 32}, {-32, 16, -8, 4, -2, 1}, {-1, -2, -4, -8, -16, -32}} {
				there, back := proved(t, a, b, w), proved(t, b, a, w)
				if !slices.EqualFunc(there, back, func(x, y parts) bool { return slices.Equal(x.S, y.S) }) {
					t.Errorf("%v, %v, %v: %v, and changed about %v", a, b, w, there, back)
				}
			}
		}
	}
}

func TestSameWeights(t *testing.T) {
	// All arcs are tight at any time: it is turned like the greatest common set.
	for _, a := range ofEachTag() {
		for _, b := range ofEachTag() {
			greatest, _, _ := inter.Max(a, b)
			for _, x := range []int{0, 1, -1, 99, 1 << 31, -1 << 31} {
				w, none := slices.Repeat([]int{x}, 6), make([]int, 6)
				l := proved(t, a, b, w)
				if !slices.Equal(l[len(l)-1].S, greatest) {
					t.Errorf("%v, %v, %v: %v at last, want %v", a, b, w, l[len(l)-1].S, greatest)
				}
				for _, s := range l {
					if !slices.Equal(s.A, w) || !slices.Equal(s.B, none) {
						t.Errorf("%v, %v, %v: split into %v and %v", a, b, w, s.A, s.B)
					}
				}
			}
		}
	}
}

func TestMoreOfAll(t *testing.T) {
	// What all weigh more is in A of all, and changes nothing else; what they weigh times so many is in both.
	for i, a := range ofEachTag() {
		for j, b := range ofEachTag() {
			w := []int{i - j, 2, 3 - j, 1, -5, i}
			more, times := make([]int, 6), make([]int, 6)
			for x := range w {
				more[x], times[x] = w[x]+10, w[x]*1000
			}
			wantMore, wantTimes := proved(t, a, b, w), proved(t, a, b, w)
			for k := range wantMore {
				for x := range w {
					wantMore[k].A[x] += 10
					wantTimes[k].A[x] *= 1000
					wantTimes[k].B[x] *= 1000
				}
			}
			tells(t, a, b, more, wantMore...)
			tells(t, a, b, times, wantTimes...)
		}
	}
}

func TestNeitherSet(t *testing.T) {
	// The greatest set is lighter than a smaller one, and those of one less are no part of it.
	left, right := pairs([2]int{0, 0}, [2]int{1, 0}, [2]int{0, 1})
	w, none := []int{9, 4, 3}, []int{0, 0, 0}
	tells(t, left, right, w, one(nil, w, none), one([]int{0}, w, none), one([]int{1, 2}, []int{3, -2, 3}, []int{6, 6, 0}))
	tells(t, right, left, w, one(nil, w, none), one([]int{0}, w, none), one([]int{1, 2}, []int{4, 4, -2}, []int{5, 0, 5}))
}

func TestLessOfWhatCounts(t *testing.T) {
	// 1 counts alone, and may not be added in b: it weighs as little as 0 in a, until 0 counts.
	a, b := free(2), but(2, 1)
	tells(t, a, b, []int{3, 5}, one(nil, []int{3, 5}, []int{0, 0}), one([]int{0}, []int{3, 3}, []int{0, 2}))
	tells(t, a, b, []int{-3, 5}, one(nil, []int{-3, 5}, []int{0, 0}), one([]int{0}, []int{-3, -3}, []int{0, 8}))
	// At the same number both count at once.
	tells(t, a, b, []int{5, 5}, one(nil, []int{5, 5}, []int{0, 0}), one([]int{0}, []int{5, 5}, []int{0, 0}))
	tells(t, a, b, []int{6, 5}, one(nil, []int{6, 5}, []int{0, 0}), one([]int{0}, []int{6, 5}, []int{0, 0}))
	// In a it may not be added, and counts for nothing.
	tells(t, b, a, []int{3, 5}, one(nil, []int{3, 5}, []int{0, 0}), one([]int{0}, []int{3, 5}, []int{0, 0}))
	// One by one they come to what 0 weighs, the heaviest ahead.
	w := []int{0, 9, 4, 9, 7}
	tells(t, free(5), but(5, 1, 2, 3, 4), w, one(nil, w, make([]int, 5)), one([]int{0}, make([]int, 5), w))
	// Less than 2 nobody weighs: 0 is left as it is.
	tells(t, free(5), but(5, 1, 3, 4), w, one(nil, w, make([]int, 5)),
		one([]int{2}, []int{0, 4, 4, 4, 4}, []int{0, 5, 0, 5, 3}), one([]int{0, 2}, []int{0, 0, 4, 0, 0}, []int{0, 9, 0, 9, 7}))
}

func TestTightInTheFirst(t *testing.T) {
	// From 1 one comes to 0, and from there to 2, when that weighs as much in a.
	left, right := pairs([2]int{0, 0}, [2]int{1, 0}, [2]int{0, 1})
	none := []int{0, 0, 0}
	for less := range 5 {
		w := []int{5, 4, 5 - less}
		first := one([]int{0}, w, none)
		tells(t, left, right, w, one(nil, w, none), first, one([]int{1, 2}, []int{5 - less, 4 - less, 5 - less}, []int{less, less, 0}))
	}
	// If 2 is the heaviest one, 1 may be added to it.
	w := []int{5, 4, 6}
	tells(t, left, right, w, one(nil, w, none), one([]int{2}, w, none), one([]int{1, 2}, w, none))
}

func TestTightInTheSecond(t *testing.T) {
	// As long as 1 weighs more in b than 3, one comes from 3 to nobody: that goes ahead of what 4 needs.
	left, right := pairs([2]int{0, 0}, [2]int{1, 0}, [2]int{0, 1}, [2]int{2, 0}, [2]int{1, 2})
	w, none := []int{5, 4, 3, 1, 1}, make([]int, 5)
	tells(t, left, right, w, one(nil, w, none), one([]int{0}, w, none),
		one([]int{1, 2}, []int{3, 2, 3, 1, 1}, []int{2, 2, 0, 0, 0}), one([]int{2, 3, 4}, []int{3, 1, 3, -2, 1}, []int{2, 3, 0, 3, 0}))
}

func TestOneOfSeveral(t *testing.T) {
	none := make([]int, 4)
	w := []int{2, 6, 6, 6}
	tells(t, kind{N: 4, A: 1}, kind{N: 4, A: 1}, w, one(nil, w, none), one([]int{1}, w, none))
	// Two and two, each with each: 0 and 3 are as heavy as 1 and 2.
	left, right := pairs([2]int{0, 0}, [2]int{1, 0}, [2]int{0, 1}, [2]int{1, 1})
	w = []int{3, 3, 3, 3}
	tells(t, left, right, w, one(nil, w, none), one([]int{0}, w, none), one([]int{0, 3}, w, none))
	// From 0, or from 2 by 3 to 1: these come to count at once, and the shorter way is told.
	w = []int{2, 4, 3, 5}
	tells(t, left, right, w, one(nil, w, none), one([]int{3}, w, none), one([]int{0, 3}, []int{2, 4, 2, 4}, []int{0, 0, 1, 1}))
	w = []int{2, 5, 3, 5}
	tells(t, left, right, w, one(nil, w, none), one([]int{1}, w, none), one([]int{1, 2}, w, none))
	// From 1 and 2 by 0 to 3 and 4, which weigh less in a than 0: what is less is told, if it is as heavy.
	left, right = pairs([2]int{0, 0}, [2]int{1, 0}, [2]int{1, 0}, [2]int{0, 1}, [2]int{0, 1})
	w, none = []int{9, 5, 5, 6, 6}, make([]int, 5)
	tells(t, left, right, w, one(nil, w, none), one([]int{0}, w, none), one([]int{1, 3}, []int{6, 2, 2, 6, 6}, []int{3, 3, 3, 0, 0}))
	w = []int{9, 5, 5, 6, 7}
	tells(t, left, right, w, one(nil, w, none), one([]int{0}, w, none), one([]int{1, 4}, []int{7, 3, 3, 6, 7}, []int{2, 2, 2, 0, 0}))
	w = []int{9, 4, 5, 7, 7}
	tells(t, left, right, w, one(nil, w, none), one([]int{0}, w, none), one([]int{2, 3}, []int{7, 3, 3, 7, 7}, []int{2, 1, 2, 0, 0}))
}

func TestBothSigns(t *testing.T) {
	// Sets go on to be told when they become lighter.
	w, none := []int{-1, 3, -2, 0}, make([]int, 4)
	tells(t, free(4), free(4), w, one(nil, w, none), one([]int{1}, w, none), one([]int{1, 3}, w, none), one([]int{0, 1, 3}, w, none), one([]int{0, 1, 2, 3}, w, none))
	w = []int{-9, -3, -7, -3}
	tells(t, free(4), kind{N: 4, A: 3}, w, one(nil, w, none), one([]int{1}, w, none), one([]int{1, 3}, w, none), one([]int{1, 2, 3}, w, none))
	left, right := pairs([2]int{0, 0}, [2]int{1, 0}, [2]int{0, 1})
	w, none = []int{1, -8, -9}, make([]int, 3)
	tells(t, left, right, w, one(nil, w, none), one([]int{0}, w, none), one([]int{1, 2}, []int{-9, -18, -9}, []int{10, 10, 0}))
}

func TestAtTheLimits(t *testing.T) {
	const most = 1 << 31
	left, right := pairs([2]int{0, 0}, [2]int{1, 0}, [2]int{0, 1})
	w, none := []int{most, -most, -most}, make([]int, 3)
	tells(t, left, right, w, one(nil, w, none), one([]int{0}, w, none), one([]int{1, 2}, []int{-most, -3 * most, -most}, []int{2 * most, 2 * most, 0}))
	w, none = []int{-most, most}, make([]int, 2)
	tells(t, free(2), but(2, 1), w, one(nil, w, none), one([]int{0}, []int{-most, -most}, []int{0, 2 * most}))
	w = []int{most, most}
	tells(t, free(2), free(2), w, one(nil, w, none), one([]int{0}, w, none), one([]int{0, 1}, w, none))
	if best := split.Best(proved(t, free(2), free(2), w), w); best != 2 {
		t.Errorf("Best: %d", best)
	}
}
