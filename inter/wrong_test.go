package inter_test

import (
	"math"
	"reflect"
	"slices"
	"testing"

	"greenwood/api"
	"greenwood/inter"
	"greenwood/set"
)

// refused tells whether of two matroids nothing is told. Matroids that have no end can't be told themselves.
func refused(a, b kind) bool {
	s, u, e := inter.Max(a, b)
	return e == api.ErrArg && s == nil && u == nil
}

// nothing holds that of two matroids nothing is told, and no Bound, either way.
func nothing(t *testing.T, a, b kind) {
	t.Helper()
	if !refused(a, b) || !refused(b, a) {
		t.Errorf("of tag %d, %d elements, and tag %d, %d elements, something is told", a.Tag, a.N, b.Tag, b.N)
	}
	for _, u := range [][]int{nil, {}, {0}, {0, 1}, {3}, {-1}, {1, 0}, {64}} {
		if there, back := inter.Bound(a, b, u), inter.Bound(b, a, u); there != -1 || back != -1 {
			t.Errorf("of tag %d, %d elements, and tag %d, %d elements, %v has Bound %d, and changed about %d", a.Tag, a.N, b.Tag, b.N, u, there, back)
		}
	}
}

// neverTold holds that nothing is told of a matroid with others.
func neverTold(t *testing.T, m kind) {
	t.Helper()
	for _, b := range []kind{{}, free(1), free(3), free(6), {N: m.N, A: m.N}, {N: m.N}, m} {
		nothing(t, m, b)
	}
}

func TestUnlikeNumbers(t *testing.T) {
	for n := range 8 {
		for many := range 8 {
			if n != many {
				nothing(t, free(n), free(many))
				nothing(t, kind{N: n}, free(many))
			}
		}
	}
	for _, c := range ofEachTag() {
		nothing(t, c.m, free(5))
		nothing(t, c.m, free(7))
		nothing(t, c.m, free(64))
		nothing(t, c.m, kind{})
		nothing(t, c.m, kind{Tag: api.Sum, N: 12, Inner: []kind{c.m, c.m}})
		nothing(t, c.m, kind{Tag: api.Restrict, N: 5, List: lists{{0, 1, 2, 3, 5}}, Inner: []kind{c.m}})
	}
}

func TestWhatMayNotBe(t *testing.T) {
	in := []kind{graph()}
	for _, m := range []kind{
		{Tag: -1}, {Tag: api.Tags}, {Tag: 99}, {Tag: math.MinInt, N: 3}, {Tag: math.MaxInt, N: 3}, {N: -1}, {N: 65}, {N: 65, A: 2}, {N: math.MinInt}, {N: math.MaxInt},
		{N: 3, A: 4}, {N: 3, A: -1}, {N: 3, A: 2, B: 1}, {N: 3, A: 2, List: lists{nil}}, {N: 3, A: 2, Inner: in},
		{Tag: api.Graph}, {Tag: api.Graph, N: 2, A: 2, List: lists{{0, 1}}}, {Tag: api.Graph, N: 1, A: 2, List: lists{{0, 2}}},
		{Tag: api.Part, N: 2, A: 1, List: lists{{0, 1}, {1}}}, {Tag: api.Part, N: 1, A: 1, List: lists{{0}, {65}}},
		{Tag: api.Trans, N: 1, A: 2, List: lists{{2}}}, {Tag: api.Trans, N: 1, A: 2, List: lists{{1, 0}}},
		{Tag: api.Linear, N: 1, A: 1, B: 4, List: lists{{1}}}, {Tag: api.Linear, N: 1, A: 1, B: 5, List: lists{{5}}},
		{Tag: api.Restrict, N: 1, List: lists{{6}}, Inner: in}, {Tag: api.Restrict, N: 2, List: lists{{1, 0}}, Inner: in},
		{Tag: api.Contract, N: 6, List: lists{{1}}, Inner: in}, {Tag: api.Contract, N: 5, List: lists{{1}}},
		{Tag: api.Trunc, N: 6, A: 65, Inner: in}, {Tag: api.Trunc}, {Tag: api.Dual, N: 5, Inner: in}, {Tag: api.Dual},
		{Tag: api.Sum}, {Tag: api.Sum, N: 7, Inner: in}, {Tag: api.Sum, N: 9, Inner: slices.Repeat([]kind{{N: 1}}, 9)},
	} {
		neverTold(t, m)
		neverTold(t, dualOf(m))
		neverTold(t, kind{Tag: api.Sum, N: m.N + 2, Inner: []kind{free(2), m}})
	}
}

func TestTooDeep(t *testing.T) {
	for _, tag := range []int{api.Dual, api.Sum} {
		for _, many := range []int{0, 1, 2, 3, 4, 5, 1000, 1 << 16} {
			m := kind{N: 6, A: 3}
			for range many {
				m = kind{Tag: tag, N: 6, Inner: []kind{m}}
			}
			if many < api.MaxDeep {
				tells(t, m, free(6), []int{0, 1, 2}, set.All(6))
				tells(t, free(6), m, []int{0, 1, 2}, nil)
				tells(t, m, m, []int{0, 1, 2}, set.All(6))
			} else {
				neverTold(t, m)
			}
		}
	}
	// A list that has itself within has no end.
	for tag := api.Restrict; tag < api.Tags; tag++ {
		l := make([]kind, 8)
		for i := range l {
			l[i] = kind{Tag: tag, Inner: l}
		}
		neverTold(t, l[0])
	}
}

func TestNoElements(t *testing.T) {
	inner := []kind{{}}
	bare := []kind{
		{}, {Tag: api.Graph, A: 1}, {Tag: api.Part, A: 1, List: lists{{}, {2}}}, {Tag: api.Trans, A: 2}, {Tag: api.Linear, A: 2, B: 3},
		{Tag: api.Restrict, List: lists{{}}, Inner: []kind{graph()}}, {Tag: api.Contract, List: lists{set.All(6)}, Inner: []kind{graph()}},
		{Tag: api.Trunc, A: 2, Inner: inner}, {Tag: api.Dual, Inner: inner}, {Tag: api.Sum, Inner: []kind{{}, {}}},
	}
	for _, a := range bare {
		for _, b := range bare {
			tells(t, a, b, nil, nil)
			bounds(t, a, b, nil, 0)
			bounds(t, a, b, []int{}, 0)
			noBound(t, a, b, []int{0})
		}
		nothing(t, a, kind{N: 1})
		nothing(t, a, free(1))
	}
}

func TestRankOfNothing(t *testing.T) {
	flat := []kind{
		{N: 3}, {Tag: api.Graph, N: 3, A: 2, List: lists{{1, 1}, {0, 0}, {1, 1}}}, {Tag: api.Part, N: 3, A: 2, List: lists{{1, 1, 1}, {3, 0}}},
		{Tag: api.Trans, N: 3, A: 1, List: lists{{}, {}, nil}}, {Tag: api.Linear, N: 3, A: 2, B: 7, List: lists{{0, 0}, {0, 0}, {0, 0}}},
		{Tag: api.Restrict, N: 3, List: lists{{0, 1, 2}}, Inner: []kind{{N: 4}}}, {Tag: api.Contract, N: 3, List: lists{{0, 1, 3}}, Inner: []kind{{N: 6, A: 3}}},
		{Tag: api.Trunc, N: 3, Inner: []kind{{N: 3, A: 2}}}, {Tag: api.Dual, N: 3, Inner: []kind{free(3)}}, {Tag: api.Sum, N: 3, Inner: []kind{{N: 1}, {}, {N: 2}}},
	}
	all := set.All(3)
	for _, a := range flat {
		for _, b := range flat {
			tells(t, a, b, nil, all)
			bounds(t, a, b, []int{1}, 0)
		}
		tells(t, a, free(3), nil, all)
		// In the first one all may be added, and in the other one nobody.
		tells(t, free(3), a, nil, nil)
		tells(t, kind{N: 3, A: 1}, a, nil, nil)
		bounds(t, free(3), a, []int{0, 2}, 2)
	}
}

func TestNilAndEmpty(t *testing.T) {
	for _, u := range [][]int{nil, {}} {
		for _, l := range []lists{nil, {}} {
			for _, in := range [][]kind{nil, {}} {
				a := kind{N: 2, A: 1, List: l, Inner: in}
				tells(t, a, free(2), []int{0}, []int{0, 1})
				tells(t, free(2), a, []int{0}, nil)
				bounds(t, a, free(2), u, 2)
				tells(t, kind{List: l, Inner: in}, kind{}, nil, nil)
				tells(t, kind{Tag: api.Graph, A: 1, List: l, Inner: in}, kind{List: l}, nil, nil)
				bounds(t, kind{List: l, Inner: in}, kind{}, u, 0)
				neverTold(t, kind{Tag: api.Dual, List: l, Inner: in})
			}
			sum := kind{Tag: api.Sum, N: 6, List: l, Inner: []kind{graph()}}
			tells(t, sum, kind{N: 6, A: 3}, []int{0, 1, 4}, []int{3})
		}
		trans := kind{Tag: api.Trans, N: 2, A: 2, List: lists{u, {0}}}
		tells(t, trans, free(2), []int{1}, []int{0, 1})
		tells(t, free(2), trans, []int{1}, []int{1})
		tells(t, kind{Tag: api.Contract, N: 6, List: lists{u}, Inner: []kind{graph()}}, kind{N: 6}, nil, []int{3})
		tells(t, kind{Tag: api.Restrict, List: lists{u}, Inner: []kind{graph()}}, kind{}, nil, nil)
	}
}

// roomy tells a list like another one, in memory of its own, with sevens behind it.
func roomy(l []int) []int { return append(slices.Clone(l), 7, 7, 7)[:len(l)] }

// untouched tells whether a list that was made so is as it was, and the sevens behind it.
func untouched(l, was []int) bool {
	return slices.Equal(l[:len(l)+3], append(slices.Clone(was), 7, 7, 7))
}

// overwrite writes into a list, as far as its memory goes.
func overwrite(l []int) {
	for i := range l[:cap(l)] {
		l[:cap(l)][i] = -9
	}
}

func TestArgumentsStay(t *testing.T) {
	fresh := ofEachTag()
	for i, c := range ofEachTag() {
		for j, d := range ofEachTag() {
			s, u, _ := inter.Max(c.m, d.m)
			was, others := slices.Clone(s), slices.Clone(u)
			// What is written into one answer is in no other one, nor in an argument.
			overwrite(s)
			if !slices.Equal(u, others) {
				t.Fatalf("%v, %v: both answers are the same memory", fresh[i].m, fresh[j].m)
			}
			overwrite(u)
			for bit := range 1 << 6 {
				l := roomy(some(bit))
				inter.Bound(c.m, d.m, l)
				if !untouched(l, some(bit)) {
					t.Fatalf("%v, %v: %v was changed to %v", fresh[i].m, fresh[j].m, some(bit), l)
				}
			}
			if !reflect.DeepEqual(c, fresh[i]) || !reflect.DeepEqual(d, fresh[j]) {
				t.Fatalf("%v, %v was changed to %v, %v", fresh[i].m, fresh[j].m, c.m, d.m)
			}
			tells(t, c.m, d.m, was, others)
		}
	}
}

// scribble writes into all lists of a matroid, and of those within.
func scribble(m kind) {
	for _, l := range m.List {
		overwrite(l)
	}
	for i := range m.Inner {
		scribble(m.Inner[i])
		m.Inner[i] = kind{}
	}
}

func TestAnswersShareNothing(t *testing.T) {
	for i := range api.Tags {
		for j := range api.Tags {
			a, b := ofEachTag()[i].m, ofEachTag()[j].m
			s, u, _ := inter.Max(a, b)
			was, others := slices.Clone(s), slices.Clone(u)
			scribble(a)
			scribble(b)
			if !slices.Equal(s, was) || !slices.Equal(u, others) {
				t.Errorf("tags %d, %d: %v, %v became %v, %v", i, j, was, others, s, u)
			}
		}
		// Both matroids may be the same one, and its lists the set of a Bound.
		m := ofEachTag()[i].m
		for _, l := range m.List {
			was := slices.Clone(l)
			inter.Bound(m, m, l)
			if !slices.Equal(l, was) {
				t.Errorf("tag %d: %v was changed to %v", i, was, l)
			}
		}
	}
}

func TestNothingIsKept(t *testing.T) {
	one, all := kind{N: 2, A: 1}, free(2)
	for range 3 {
		tells(t, one, all, []int{0}, []int{0, 1})
		nothing(t, one, free(3))
		tells(t, all, all, []int{0, 1}, []int{0, 1})
		noBound(t, one, all, []int{2})
		tells(t, all, one, []int{0}, nil)
		neverTold(t, kind{Tag: 99})
		bounds(t, one, all, []int{0, 1}, 1)
	}
}
