package split_test

import (
	"math"
	"reflect"
	"slices"
	"testing"

	"greenwood/api"
	"greenwood/set"
	"greenwood/split"
)

// refused tells whether of two matroids with weights nothing is told. Matroids that have no end can't be told themselves.
func refused(a, b kind, w []int) bool {
	l, e := split.All(a, b, w)
	return e == api.ErrArg && l == nil && !split.May(a, b, w)
}

// nothing holds that of two matroids with weights nothing is told, either way.
func nothing(t *testing.T, a, b kind, w []int) {
	t.Helper()
	if !refused(a, b, w) || !refused(b, a, w) {
		t.Errorf("of tag %d, %d elements, and tag %d, %d elements, with %d weights, something is told", a.Tag, a.N, b.Tag, b.N, len(w))
	}
}

// neverTold holds that nothing is told of a matroid with others.
func neverTold(t *testing.T, m kind) {
	t.Helper()
	for _, b := range []kind{{}, free(1), free(3), free(6), {N: m.N, A: m.N}, {N: m.N}, m} {
		for _, many := range []int{0, 1, 3, 6, min(max(m.N, 0), 100)} {
			nothing(t, m, b, make([]int, many))
		}
	}
}

func TestUnlikeNumbers(t *testing.T) {
	for n := range 8 {
		for many := range 8 {
			if n != many {
				for _, weights := range []int{n, many, 0, 8} {
					nothing(t, free(n), free(many), make([]int, weights))
					nothing(t, kind{N: n}, free(many), make([]int, weights))
				}
			}
		}
	}
	for _, m := range ofEachTag() {
		for _, many := range []int{5, 6, 7, 12, 64} {
			w := make([]int, many)
			nothing(t, m, free(5), w)
			nothing(t, m, free(7), w)
			nothing(t, m, free(64), w)
			nothing(t, m, kind{}, w)
			nothing(t, m, kind{Tag: api.Sum, N: 12, Inner: []kind{m, m}}, w)
			nothing(t, m, kind{Tag: api.Restrict, N: 5, List: lists{{0, 1, 2, 3, 5}}, Inner: []kind{m}}, w)
		}
	}
}

func TestFewerOrMoreWeights(t *testing.T) {
	for _, m := range ofEachTag() {
		for many := range 70 {
			if w := make([]int, many); many == 6 {
				proved(t, m, m, w)
			} else {
				nothing(t, m, m, w)
				nothing(t, m, free(6), w)
			}
		}
	}
	for n := range 65 {
		if n > 0 {
			nothing(t, free(n), free(n), make([]int, n-1))
		}
		nothing(t, free(n), free(n), make([]int, n+1))
		nothing(t, kind{N: n}, free(n), make([]int, 100000))
	}
	nothing(t, free(65), free(65), make([]int, 65))
}

func TestWeightsBeyond(t *testing.T) {
	const most = 1 << 31
	for _, m := range ofEachTag() {
		for x := range 6 {
			for _, within := range []int{-most, 1 - most, -1 << 30, -1, 0, 1, 1 << 30, most - 1, most} {
				w := make([]int, 6)
				w[x] = within
				proved(t, m, free(6), w)
				proved(t, m, m, w)
			}
			for _, beyond := range []int{math.MinInt, -1 << 40, -1 << 32, -most - 1, most + 1, 1 << 32, 1 << 40, math.MaxInt} {
				w := make([]int, 6)
				w[x] = beyond
				nothing(t, m, free(6), w)
				nothing(t, m, m, w)
				w[(x+1)%6] = most
				nothing(t, m, free(6), w)
			}
		}
	}
}

func TestWhatMayNotBe(t *testing.T) {
	in := []kind{graph()}
	for _, m := range []kind{
		{Tag: -1}, {Tag: api.Tags}, {Tag: 99}, {Tag: math.MinInt, N: 3}, {Tag: math.MaxInt, N: 3}, {N: -1}, {N: 65}, {N: 65, A: 2}, {N: math.MinInt}, {N: math.MaxInt},
		{N: 3, A: 4}, {N: 3, A: -1}, {N: 3, A: 2, B: 1}, {N: 3, A: 2, List: lists{nil}}, {N: 3, A: 2, Inner: in},
		{Tag: api.Graph}, {Tag: api.Graph, N: 2, A: 2, List: lists{{0, 1}}}, {Tag: api.Graph, N: 1, A: 2, List: lists{{0, 2}}},
		{Tag: api.Part, N: 2, A: 1, List: lists{{0, 1}, {1}}}, {Tag: api.Part, N: 1, A: 1, List: lists{{0}, {65}}},
		{Tag: api.Trans, N: 1, A: 2, List: lists{{2}}}, {Tag: api.Trans, N: 1, A: 2, List: lists{{1, 0}}},
		{Tag: api.Linear, N: 1, A: 1, B: 4, List: lists{{1}}}, {Tag: api.Linear, N: 1, A: 1, B: 5, List: lists{{5}}},
		{Tag: api.Restrict, N: 1, List: lists{{6}}, Inner: in}, {Tag: api.Restrict, N: 2, List: lists{{1, 0}}, Inner: in},
		{Tag: api.Contract, N: 6, List: lists{{1}}, Inner: in}, {Tag: api.Contract, N: 5, List: lists{{1}}},
		{Tag: api.Trunc, N: 6, A: 65, Inner: in}, {Tag: api.Trunc}, {Tag: api.Dual, N: 5, Inner: in}, {Tag: api.Dual},
		{Tag: api.Sum}, {Tag: api.Sum, N: 7, Inner: in}, {Tag: api.Sum, N: 9, Inner: slices.Repeat([]kind{{N: 1}}, 9)},
	} {
		neverTold(t, m)
		neverTold(t, dualOf(m))
		neverTold(t, kind{Tag: api.Sum, N: m.N + 2, Inner: []kind{free(2), m}})
	}
}

func TestTooDeep(t *testing.T) {
	w := []int{1, 5, 2, 5, -1, 0}
	for _, tag := range []int{api.Dual, api.Sum} {
		for _, many := range []int{0, 1, 2, 3, 4, 5, 1000, 1 << 16} {
			m := kind{N: 6, A: 3}
			for range many {
				m = kind{Tag: tag, N: 6, Inner: []kind{m}}
			}
			if many < api.MaxDeep {
				likeGreedy(t, m, free(6), kind{N: 6, A: 3}, w, 3)
				likeGreedy(t, free(6), m, kind{N: 6, A: 3}, w, 3)
				likeGreedy(t, m, m, kind{N: 6, A: 3}, w, 3)
			} else {
				neverTold(t, m)
			}
		}
	}
	// A list that has itself within has no end.
	for tag := api.Restrict; tag < api.Tags; tag++ {
		l := make([]kind, 8)
		for i := range l {
			l[i] = kind{Tag: tag, Inner: l}
		}
		neverTold(t, l[0])
	}
}

func TestNoElements(t *testing.T) {
	inner := []kind{{}}
	bare := []kind{
		{}, {Tag: api.Graph, A: 1}, {Tag: api.Part, A: 1, List: lists{{}, {2}}}, {Tag: api.Trans, A: 2}, {Tag: api.Linear, A: 2, B: 3},
		{Tag: api.Restrict, List: lists{{}}, Inner: []kind{graph()}}, {Tag: api.Contract, List: lists{set.All(6)}, Inner: []kind{graph()}},
		{Tag: api.Trunc, A: 2, Inner: inner}, {Tag: api.Dual, Inner: inner}, {Tag: api.Sum, Inner: []kind{{}, {}}},
	}
	for _, a := range bare {
		for _, b := range bare {
			for _, w := range [][]int{nil, {}} {
				tells(t, a, b, w, parts{})
			}
			nothing(t, a, b, []int{0})
		}
		nothing(t, a, kind{N: 1}, nil)
		nothing(t, a, free(1), []int{0})
	}
}

func TestRankOfNothing(t *testing.T) {
	flat := []kind{
		{N: 3}, {Tag: api.Graph, N: 3, A: 2, List: lists{{1, 1}, {0, 0}, {1, 1}}}, {Tag: api.Part, N: 3, A: 2, List: lists{{1, 1, 1}, {3, 0}}},
		{Tag: api.Trans, N: 3, A: 1, List: lists{{}, {}, nil}}, {Tag: api.Linear, N: 3, A: 2, B: 7, List: lists{{0, 0}, {0, 0}, {0, 0}}},
		{Tag: api.Restrict, N: 3, List: lists{{0, 1, 2}}, Inner: []kind{{N: 4}}}, {Tag: api.Contract, N: 3, List: lists{{0, 1, 3}}, Inner: []kind{{N: 6, A: 3}}},
		{Tag: api.Trunc, N: 3, Inner: []kind{{N: 3, A: 2}}}, {Tag: api.Dual, N: 3, Inner: []kind{free(3)}}, {Tag: api.Sum, N: 3, Inner: []kind{{N: 1}, {}, {N: 2}}},
	}
	none := []int{0, 0, 0}
	for _, a := range flat {
		for _, w := range [][]int{{0, 0, 0}, {5, -1, 7}, {-1, -1, -2}, {1 << 31, -1 << 31, 0}} {
			for _, b := range flat {
				tells(t, a, b, w, one(nil, w, none))
			}
			// In the one all may be added, one by one, as they come to weigh as little as the others: that's not told.
			tells(t, a, free(3), w, one(nil, w, none))
			tells(t, free(3), a, w, one(nil, w, none))
			tells(t, kind{N: 3, A: 1}, a, w, one(nil, w, none))
		}
	}
}

func TestNilAndEmpty(t *testing.T) {
	w, none := []int{1, 2}, []int{0, 0}
	for _, u := range [][]int{nil, {}} {
		for _, l := range []lists{nil, {}} {
			for _, in := range [][]kind{nil, {}} {
				a := kind{N: 2, A: 1, List: l, Inner: in}
				tells(t, a, free(2), w, one(nil, w, none), one([]int{1}, w, none))
				tells(t, free(2), a, w, one(nil, w, none), one([]int{1}, w, none))
				nothing(t, a, free(2), u)
				tells(t, kind{List: l, Inner: in}, kind{}, u, parts{})
				tells(t, kind{Tag: api.Graph, A: 1, List: l, Inner: in}, kind{List: l}, u, parts{})
				neverTold(t, kind{Tag: api.Dual, List: l, Inner: in})
			}
		}
		trans := kind{Tag: api.Trans, N: 2, A: 2, List: lists{u, {0}}}
		tells(t, trans, free(2), w, one(nil, w, none), one([]int{1}, w, none))
		tells(t, free(2), trans, w, one(nil, w, none), one([]int{1}, w, none))
		tells(t, kind{Tag: api.Restrict, List: lists{u}, Inner: []kind{graph()}}, kind{}, u, parts{})
	}
}

// roomy tells a list like another one, in memory of its own, with sevens behind it.
func roomy(l []int) []int { return append(slices.Clone(l), 7, 7, 7)[:len(l)] }

// untouched tells whether a list that was made so is as it was, and the sevens behind it.
func untouched(l, was []int) bool {
	return slices.Equal(l[:len(l)+3], append(slices.Clone(was), 7, 7, 7))
}

// overwrite writes into a list, as far as its memory goes.
func overwrite(l []int) {
	for i := range l[:cap(l)] {
		l[:cap(l)][i] = -9
	}
}

// copied tells splits in memory of their own.
func copied(l []parts) []parts {
	var other []parts
	for _, s := range l {
		other = append(other, one(slices.Clone(s.S), slices.Clone(s.A), slices.Clone(s.B)))
	}
	return other
}

func TestArgumentsStay(t *testing.T) {
	fresh := ofEachTag()
	for i, a := range ofEachTag() {
		for j, b := range ofEachTag() {
			for _, was := range weightsOfSix() {
				w := roomy(was)
				l, _ := split.All(a, b, w)
				split.May(a, b, w)
				split.Best(l, w)
				if !untouched(w, was) || !reflect.DeepEqual(a, fresh[i]) || !reflect.DeepEqual(b, fresh[j]) {
					t.Fatalf("%v, %v, %v was changed to %v, %v, %v", fresh[i], fresh[j], was, a, b, w[:9])
				}
			}
		}
	}
}

func TestBestLeavesThem(t *testing.T) {
	w := roomy([]int{3, -1, 4})
	s, a, b := roomy([]int{0, 2}), roomy([]int{1, 1, 1}), roomy([]int{2, -2, 3})
	l := []parts{one(nil, a, b), one(s, a, b), one([]int{9, 1}, nil, nil)}
	best(t, l, w, 1)
	if !untouched(w, []int{3, -1, 4}) || !untouched(s, []int{0, 2}) || !untouched(a, []int{1, 1, 1}) || !untouched(b, []int{2, -2, 3}) || !slices.Equal(l[2].S, []int{9, 1}) {
		t.Errorf("changed to %v, %v", w, l)
	}
}

// scribble writes into all lists of a matroid, and of those within.
func scribble(m kind) {
	for _, l := range m.List {
		overwrite(l)
	}
	for i := range m.Inner {
		scribble(m.Inner[i])
		m.Inner[i] = kind{}
	}
}

// listsOf tells all lists of splits.
func listsOf(l []parts) lists {
	var all lists
	for _, s := range l {
		all = append(all, s.S, s.A, s.B)
	}
	return all
}

func TestAnswersShareNothing(t *testing.T) {
	for i := range api.Tags {
		for j := range api.Tags {
			a, b, w := ofEachTag()[i], ofEachTag()[j], []int{5, 1, 3, -2, 4, 0}
			l := proved(t, a, b, w)
			was := copied(l)
			// What is written into an argument is in no answer.
			scribble(a)
			scribble(b)
			overwrite(w)
			if !alike(l, was) {
				t.Errorf("tags %d, %d: %v became %v", i, j, was, l)
			}
			// What is written into one list of an answer is in no other one.
			all, wasAll := listsOf(l), listsOf(was)
			for k := range all {
				if !slices.Equal(all[k], wasAll[k]) {
					t.Errorf("tags %d, %d: %v became %v by what was written elsewhere", i, j, wasAll[k], all[k])
				}
				overwrite(all[k])
			}
		}
	}
}

func TestNothingIsKept(t *testing.T) {
	m, all, w, none := kind{N: 2, A: 1}, free(2), []int{3, 5}, []int{0, 0}
	for range 3 {
		tells(t, m, all, w, one(nil, w, none), one([]int{1}, w, none))
		nothing(t, m, free(3), w)
		tells(t, all, all, w, one(nil, w, none), one([]int{1}, w, none), one([]int{0, 1}, w, none))
		nothing(t, m, all, []int{3})
		best(t, nil, w, -1)
		tells(t, all, but(2, 1), w, one(nil, w, none), one([]int{0}, []int{3, 3}, []int{0, 2}))
		neverTold(t, kind{Tag: 99})
		best(t, sets(nil, []int{1}), w, 1)
		tells(t, all, m, w, one(nil, w, none), one([]int{1}, w, none))
	}
}
