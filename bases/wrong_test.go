package bases_test

import (
	"math"
	"reflect"
	"slices"
	"testing"

	"greenwood/api"
	"greenwood/bases"
	"greenwood/set"
)

// refused tells whether of a matroid, and a k, nothing is told. A matroid that has no end can't be told itself.
func refused(m kind, k int) bool {
	l, u, e := bases.Pack(m, k)
	p, v, f := bases.Cover(m, k)
	return l == nil && u == nil && e == api.ErrArg && p == nil && v == nil && f == api.ErrArg
}

// wrongTimes tells numbers that are no k.
func wrongTimes() []int {
	return []int{0, 9, -1, -2, -8, 10, 16, 64, 65, 1 << 16, 1 << 31, 1<<32 + 1, 1 << 40, -1 << 40, math.MinInt, math.MinInt + 1, math.MaxInt, math.MaxInt - 1}
}

// neverTold holds that nothing is told of a matroid, whatever k is.
func neverTold(t *testing.T, m kind) {
	t.Helper()
	for k := 1; k <= 8; k++ {
		if !refused(m, k) {
			t.Errorf("of tag %d, of %d elements, something is told %d times", m.Tag, m.N, k)
		}
	}
	for _, k := range wrongTimes() {
		if !refused(m, k) {
			t.Errorf("of tag %d, of %d elements, something is told %d times", m.Tag, m.N, k)
		}
	}
}

func TestHowManyTimes(t *testing.T) {
	l := []kind{{}, {N: 3}, free(3), free(64), {N: 64}, {N: 64, A: 8}, {N: 1, A: 1}}
	for _, c := range ofEachTag() {
		l = append(l, c.m)
	}
	for _, m := range l {
		for _, k := range wrongTimes() {
			if !refused(m, k) {
				t.Errorf("of %v something is told %d times", m, k)
			}
		}
		for k := -20; k <= 20; k++ {
			if refused(m, k) != (k < 1 || k > 8) {
				t.Errorf("of %v, %d times: refused is %v", m, k, refused(m, k))
			}
		}
	}
}

// mayNot tells matroids that may not be.
func mayNot() []kind {
	in := []kind{whole()}
	return []kind{
		{Tag: -1}, {Tag: api.Tags}, {Tag: 99}, {Tag: math.MinInt, N: 3}, {Tag: math.MaxInt, N: 3},
		{N: -1}, {N: 65}, {N: 65, A: 2}, {N: math.MinInt}, {N: math.MaxInt}, {N: math.MaxInt, A: 64},
		{N: 3, A: 4}, {N: 3, A: -1}, {N: 3, A: math.MinInt}, {N: 3, A: math.MaxInt}, {N: 3, A: 2, B: 1}, {N: 3, A: 2, List: lists{nil}}, {N: 3, A: 2, Inner: in},
		{Tag: api.Graph}, {Tag: api.Graph, N: 2, A: 2, List: lists{{0, 1}}}, {Tag: api.Graph, N: 1, A: 2, List: lists{{0, 2}}}, {Tag: api.Graph, N: 1, A: 2, List: lists{{0}}},
		{Tag: api.Part, N: 2, A: 1, List: lists{{0, 1}, {1}}}, {Tag: api.Part, N: 1, A: 1, List: lists{{0}, {65}}}, {Tag: api.Part, N: 1, A: 1, List: lists{{0}}},
		{Tag: api.Trans, N: 1, A: 2, List: lists{{2}}}, {Tag: api.Trans, N: 1, A: 2, List: lists{{1, 0}}},
		{Tag: api.Linear, N: 1, A: 1, B: 4, List: lists{{1}}}, {Tag: api.Linear, N: 1, A: 1, B: 5, List: lists{{5}}},
		{Tag: api.Restrict, N: 1, List: lists{{6}}, Inner: in}, {Tag: api.Restrict, N: 2, List: lists{{1, 0}}, Inner: in},
		{Tag: api.Contract, N: 6, List: lists{{1}}, Inner: in}, {Tag: api.Contract, N: 5, List: lists{{1}}},
		{Tag: api.Trunc, N: 6, A: 65, Inner: in}, {Tag: api.Trunc}, {Tag: api.Dual, N: 5, Inner: in}, {Tag: api.Dual},
		{Tag: api.Sum}, {Tag: api.Sum, N: 7, Inner: in}, {Tag: api.Sum, N: 9, Inner: times(9, kind{N: 1})},
	}
}

func TestWhatMayNotBe(t *testing.T) {
	for _, m := range mayNot() {
		neverTold(t, m)
		neverTold(t, dualOf(m))
		neverTold(t, kind{Tag: api.Sum, N: m.N + 2, Inner: []kind{free(2), m}})
	}
}

func TestTooDeep(t *testing.T) {
	for _, tag := range []int{api.Dual, api.Sum} {
		for _, many := range []int{0, 1, 2, 3, 4, 5, 1000, 1 << 16} {
			m := kind{N: 6, A: 3}
			for range many {
				m = kind{Tag: tag, N: 6, Inner: []kind{m}}
			}
			if many >= api.MaxDeep {
				neverTold(t, m)
				continue
			}
			both(t, one{m, 2, 2})
			packed(t, m, []int{0, 1, 2}, []int{3, 4, 5})
			covered(t, m, []int{0, 1, 2}, []int{3, 4, 5})
		}
	}
	// A list that has itself within has no end.
	for tag := api.Restrict; tag < api.Tags; tag++ {
		l := make([]kind, 8)
		for i := range l {
			l[i] = kind{Tag: tag, Inner: l}
		}
		neverTold(t, l[0])
	}
}

func TestNilAndEmpty(t *testing.T) {
	for _, u := range [][]int{nil, {}} {
		for _, l := range []lists{nil, {}} {
			for _, in := range [][]kind{nil, {}} {
				m := kind{N: 2, A: 1, List: l, Inner: in}
				packed(t, m, []int{0}, []int{1})
				covered(t, m, []int{0}, []int{1})
				notPacked(t, m, 3)
				notCovered(t, m, 1, 0, 1)
				packed(t, kind{List: l, Inner: in}, nil, nil)
				covered(t, kind{Tag: api.Graph, A: 1, List: l, Inner: in}, nil, nil, nil)
				neverTold(t, kind{Tag: api.Dual, List: l, Inner: in})
			}
			sum := kind{Tag: api.Sum, N: 6, List: l, Inner: []kind{twice()}}
			packed(t, sum, []int{0, 1}, []int{2, 3}, []int{4, 5})
		}
		trans := kind{Tag: api.Trans, N: 2, A: 2, List: lists{u, {0}}}
		packed(t, trans, []int{1})
		notPacked(t, trans, 2, 0)
		notCovered(t, trans, 2, 0)
		both(t, one{kind{Tag: api.Contract, N: 6, List: lists{u}, Inner: []kind{whole()}}, 2, 2})
		both(t, one{kind{Tag: api.Restrict, List: lists{u}, Inner: []kind{whole()}}, 8, 1})
	}
}

// withRoom tells a matroid like another one, in memory of its own, with sevens behind each of its lists.
func withRoom(m kind) kind {
	l, inner := m.List, m.Inner
	m.List, m.Inner = nil, nil
	for _, s := range l {
		m.List = append(m.List, append(slices.Clone(s), 7, 7, 7)[:len(s)])
	}
	for _, in := range inner {
		m.Inner = append(m.Inner, withRoom(in))
	}
	m.List, m.Inner = append(m.List, []int{7, 7, 7, 7})[:len(l)], append(m.Inner, free(7))[:len(inner)]
	return m
}

// untouched tells whether a matroid that was made so is as it was, and what lies behind its lists.
func untouched(m, was kind) bool {
	l, inner := m.List[:len(m.List)+1], m.Inner[:len(m.Inner)+1]
	for i, s := range was.List {
		if !slices.Equal(l[i][:len(s)+3], append(slices.Clone(s), 7, 7, 7)) {
			return false
		}
	}
	for i, in := range was.Inner {
		if !untouched(inner[i], in) {
			return false
		}
	}
	same := m.Tag == was.Tag && m.N == was.N && m.A == was.A && m.B == was.B && len(m.List) == len(was.List) && len(m.Inner) == len(was.Inner)
	return same && slices.Equal(l[len(was.List)], []int{7, 7, 7, 7}) && reflect.DeepEqual(inner[len(was.Inner)], free(7))
}

func TestArgumentsStay(t *testing.T) {
	for _, c := range ofEachTag() {
		m := withRoom(c.m)
		for k := 0; k <= 9; k++ {
			bases.Pack(m, k)
			bases.Cover(m, k)
			if !untouched(m, c.m) {
				t.Fatalf("%v was changed to %v", c.m, m)
			}
		}
	}
}

// overwrite writes into a list, as far as its memory goes.
func overwrite(l []int) {
	for i := range l[:cap(l)] {
		l[:cap(l)][i] = -9
	}
}

// scribble writes into all lists of matroids, and of those within.
func scribble(all []kind) {
	for i, m := range all {
		for _, l := range m.List {
			overwrite(l)
		}
		scribble(m.Inner)
		all[i] = kind{}
	}
}

// copied tells the same sets in other memory.
func copied(l lists) lists {
	var c lists
	for _, s := range l {
		c = append(c, slices.Clone(s))
	}
	return c
}

func TestAnswersShareNothing(t *testing.T) {
	for tag := range api.Tags {
		for k := 1; k <= 8; k++ {
			for _, ask := range []func(kind, int) (lists, []int, api.Errno){bases.Pack, bases.Cover} {
				l := []kind{ofEachTag()[tag].m}
				got, u, _ := ask(l[0], k)
				other, v, _ := ask(l[0], k)
				was, with := copied(got), slices.Clone(u)
				// What is written into an argument is in no answer, nor what is written into one list in another one.
				scribble(l)
				if !sameSets(got, was) || !slices.Equal(u, with) {
					t.Errorf("tag %d, %d times: %v, %v became %v, %v", tag, k, was, with, got, u)
				}
				for i, s := range got {
					overwrite(s)
					if !sameSets(got[i+1:], was[i+1:]) {
						t.Errorf("tag %d, %d times: behind %d %v became %v", tag, k, i, was, got)
					}
				}
				overwrite(u)
				if !sameSets(other, was) || !slices.Equal(v, with) {
					t.Errorf("tag %d, %d times: %v, %v became %v, %v", tag, k, was, with, other, v)
				}
			}
		}
	}
}

func TestOneListInSeveralPlaces(t *testing.T) {
	part := []int{0, 1, 2}
	m := kind{Tag: api.Restrict, N: 3, List: lists{part}, Inner: []kind{{Tag: api.Part, N: 3, A: 3, List: lists{part, part}}}}
	packed(t, m, []int{1, 2})
	notPacked(t, m, 2, 0)
	notCovered(t, m, 8, 0)
	if !slices.Equal(part, []int{0, 1, 2}) {
		t.Errorf("0 1 2 was changed to %v", part)
	}
}

func TestNothingIsKept(t *testing.T) {
	m := kind{N: 4, A: 2}
	for range 3 {
		packed(t, m, []int{0, 1}, []int{2, 3})
		notPacked(t, m, 3)
		covered(t, m, []int{0, 1}, []int{2, 3}, nil)
		neverTold(t, kind{Tag: 99})
		notCovered(t, m, 1, set.All(4)...)
		notPacked(t, free(4), 2)
		covered(t, free(4), set.All(4), nil)
		notCovered(t, kind{N: 4}, 2, set.All(4)...)
		packed(t, kind{N: 4}, nil, nil)
	}
}
