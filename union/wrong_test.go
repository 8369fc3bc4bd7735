package union_test

import (
	"math"
	"reflect"
	"slices"
	"testing"

	"greenwood/api"
	"greenwood/set"
	"greenwood/union"
)

// refused tells whether of these matroids nothing is told. Those that have no end can't be told themselves.
func refused(l []kind) bool {
	of, u, e := union.Max(l)
	if e != api.ErrArg || of != nil || u != nil {
		return false
	}
	for _, u := range [][]int{nil, {}, {0}, {0, 1}, {3}, {-1}, {1, 0}, {64}} {
		if union.Bound(l, u) != -1 {
			return false
		}
	}
	return true
}

// nothing holds that of these matroids nothing is told, and no Bound.
func nothing(t *testing.T, l []kind) {
	t.Helper()
	if !refused(l) {
		t.Errorf("of %d matroids something is told", len(l))
	}
}

// neverTold holds that nothing is told of a matroid alone, nor with others, in whatever place it is among them.
func neverTold(t *testing.T, m kind) {
	t.Helper()
	nothing(t, []kind{m})
	for _, other := range []kind{{}, free(1), free(6), {N: m.N, A: m.N}, {N: m.N}, m} {
		nothing(t, []kind{m, other})
		nothing(t, []kind{other, m})
		for at := range 8 {
			l := times(8, other)
			l[at] = m
			nothing(t, l)
		}
	}
}

func TestHowMany(t *testing.T) {
	for _, l := range [][]kind{nil, {}} {
		nothing(t, l)
	}
	for many := range 20 {
		for _, m := range []kind{{}, {N: 3}, free(3), {N: 6, A: 2}, graph()} {
			l := times(many, m)
			if many < 1 || many > 8 {
				nothing(t, l)
				continue
			}
			if _, _, e := union.Max(l); e != api.OK {
				t.Errorf("Max of %d times %v: %d", many, m, e)
			}
			bounds(t, l, nil, m.N)
		}
	}
	nothing(t, make([]kind, 1<<20))
	for _, c := range ofEachTag() {
		nothing(t, times(9, c.m))
		nothing(t, append(times(8, c.m), kind{}))
	}
}

func TestUnlikeNumbers(t *testing.T) {
	for n := range 8 {
		for many := range 8 {
			if n != many {
				nothing(t, []kind{free(n), free(many)})
				nothing(t, []kind{free(n), free(n), {N: many}})
				for at := range 8 {
					l := times(8, kind{N: n})
					l[at] = free(many)
					nothing(t, l)
				}
			}
		}
	}
	for _, c := range ofEachTag() {
		for _, other := range []kind{free(5), free(7), free(64), {}, {Tag: api.Sum, N: 12, Inner: times(2, c.m)}, {Tag: api.Restrict, N: 5, List: lists{{0, 1, 2, 3, 5}}, Inner: []kind{c.m}}} {
			nothing(t, []kind{c.m, other})
			nothing(t, []kind{other, c.m})
			nothing(t, []kind{c.m, c.m, other, c.m})
		}
	}
}

func TestWhatMayNotBe(t *testing.T) {
	in := []kind{graph()}
	for _, m := range []kind{
		{Tag: -1}, {Tag: api.Tags}, {Tag: 99}, {Tag: math.MinInt, N: 3}, {Tag: math.MaxInt, N: 3}, {N: -1}, {N: 65}, {N: 65, A: 2}, {N: math.MinInt}, {N: math.MaxInt},
		{N: 3, A: 4}, {N: 3, A: -1}, {N: 3, A: 2, B: 1}, {N: 3, A: 2, List: lists{nil}}, {N: 3, A: 2, Inner: in},
		{Tag: api.Graph}, {Tag: api.Graph, N: 2, A: 2, List: lists{{0, 1}}}, {Tag: api.Graph, N: 1, A: 2, List: lists{{0, 2}}},
		{Tag: api.Part, N: 2, A: 1, List: lists{{0, 1}, {1}}}, {Tag: api.Part, N: 1, A: 1, List: lists{{0}, {65}}},
		{Tag: api.Trans, N: 1, A: 2, List: lists{{2}}}, {Tag: api.Trans, N: 1, A: 2, List: lists{{1, 0}}},
		{Tag: api.Linear, N: 1, A: 1, B: 4, List: lists{{1}}}, {Tag: api.Linear, N: 1, A: 1, B: 5, List: lists{{5}}},
		{Tag: api.Restrict, N: 1, List: lists{{6}}, Inner: in}, {Tag: api.Restrict, N: 2, List: lists{{1, 0}}, Inner: in},
		{Tag: api.Contract, N: 6, List: lists{{1}}, Inner: in}, {Tag: api.Contract, N: 5, List: lists{{1}}},
		{Tag: api.Trunc, N: 6, A: 65, Inner: in}, {Tag: api.Trunc}, {Tag: api.Dual, N: 5, Inner: in}, {Tag: api.Dual},
		{Tag: api.Sum}, {Tag: api.Sum, N: 7, Inner: in}, {Tag: api.Sum, N: 9, Inner: slices.Repeat([]kind{{N: 1}}, 9)},
	} {
		neverTold(t, m)
		neverTold(t, dualOf(m))
		neverTold(t, kind{Tag: api.Sum, N: m.N + 2, Inner: []kind{free(2), m}})
	}
}

func TestTooDeep(t *testing.T) {
	for _, tag := range []int{api.Dual, api.Sum} {
		for _, many := range []int{0, 1, 2, 3, 4, 5, 1000, 1 << 16} {
			m := kind{N: 6, A: 3}
			for range many {
				m = kind{Tag: tag, N: 6, Inner: []kind{m}}
			}
			if many < api.MaxDeep {
				tells(t, []kind{m}, []int{0, 0, 0, -1, -1, -1}, set.All(6))
				tells(t, []kind{m, m}, []int{0, 0, 0, 1, 1, 1}, nil)
				tells(t, []kind{{N: 6, A: 1}, m}, []int{0, 1, 1, 1, -1, -1}, set.All(6))
			} else {
				neverTold(t, m)
			}
		}
	}
	// A list that has itself within has no end.
	for tag := api.Restrict; tag < api.Tags; tag++ {
		l := make([]kind, 8)
		for i := range l {
			l[i] = kind{Tag: tag, Inner: l}
		}
		nothing(t, l)
		nothing(t, l[:1])
		nothing(t, []kind{{}, l[0]})
	}
}

func TestNoElements(t *testing.T) {
	inner := []kind{{}}
	bare := []kind{
		{}, {Tag: api.Graph, A: 1}, {Tag: api.Part, A: 1, List: lists{{}, {2}}}, {Tag: api.Trans, A: 2}, {Tag: api.Linear, A: 2, B: 3},
		{Tag: api.Restrict, List: lists{{}}, Inner: []kind{graph()}}, {Tag: api.Contract, List: lists{set.All(6)}, Inner: []kind{graph()}},
		{Tag: api.Trunc, A: 2, Inner: inner}, {Tag: api.Dual, Inner: inner}, {Tag: api.Sum, Inner: []kind{{}, {}}},
	}
	for _, a := range bare {
		for many := 1; many <= 8; many++ {
			tells(t, times(many, a), nil, nil)
			bounds(t, times(many, a), []int{}, 0)
			noBound(t, times(many, a), []int{0})
		}
		for _, b := range bare {
			tells(t, []kind{a, b}, nil, nil)
		}
		nothing(t, []kind{a, {N: 1}})
		nothing(t, []kind{free(1), a})
	}
	tells(t, bare[:8], nil, nil)
	tells(t, bare[2:], nil, nil)
	nothing(t, bare)
}

func TestRankOfNothing(t *testing.T) {
	flat := []kind{
		{N: 3}, {Tag: api.Graph, N: 3, A: 2, List: lists{{1, 1}, {0, 0}, {1, 1}}}, {Tag: api.Part, N: 3, A: 2, List: lists{{1, 1, 1}, {3, 0}}},
		{Tag: api.Trans, N: 3, A: 1, List: lists{{}, {}, nil}}, {Tag: api.Linear, N: 3, A: 2, B: 7, List: lists{{0, 0}, {0, 0}, {0, 0}}},
		{Tag: api.Restrict, N: 3, List: lists{{0, 1, 2}}, Inner: []kind{{N: 4}}}, {Tag: api.Contract, N: 3, List: lists{{0, 1, 3}}, Inner: []kind{{N: 6, A: 3}}},
		{Tag: api.Trunc, N: 3, Inner: []kind{{N: 3, A: 2}}}, {Tag: api.Dual, N: 3, Inner: []kind{free(3)}}, {Tag: api.Sum, N: 3, Inner: []kind{{N: 1}, {}, {N: 2}}},
	}
	all, none := set.All(3), []int{-1, -1, -1}
	for _, a := range flat {
		for many := 1; many <= 8; many++ {
			tells(t, times(many, a), none, all)
		}
		for _, b := range flat {
			tells(t, []kind{a, b}, none, all)
			bounds(t, []kind{a, b}, []int{1}, 2)
		}
		tells(t, []kind{a, free(3)}, []int{1, 1, 1}, nil)
		tells(t, []kind{a, {N: 3, A: 1}, a}, []int{1, -1, -1}, all)
	}
	tells(t, flat[:8], none, all)
	tells(t, flat[2:], none, all)
}

func TestNilAndEmpty(t *testing.T) {
	for _, u := range [][]int{nil, {}} {
		for _, l := range []lists{nil, {}} {
			for _, in := range [][]kind{nil, {}} {
				a := kind{N: 2, A: 1, List: l, Inner: in}
				tells(t, []kind{a}, []int{0, -1}, []int{0, 1})
				tells(t, []kind{a, a}, []int{0, 1}, nil)
				tells(t, []kind{a, free(2)}, []int{0, 1}, nil)
				bounds(t, []kind{a, free(2)}, u, 2)
				tells(t, []kind{{List: l, Inner: in}, {}}, nil, nil)
				tells(t, []kind{{Tag: api.Graph, A: 1, List: l, Inner: in}, {List: l}}, nil, nil)
				bounds(t, []kind{{List: l, Inner: in}}, u, 0)
				neverTold(t, kind{Tag: api.Dual, List: l, Inner: in})
			}
			sum := kind{Tag: api.Sum, N: 6, List: l, Inner: []kind{graph()}}
			tells(t, []kind{sum, {N: 6, A: 1}}, []int{0, 0, 1, -1, 0, 0}, []int{0, 1, 2, 3})
		}
		trans := kind{Tag: api.Trans, N: 2, A: 2, List: lists{u, {0}}}
		tells(t, []kind{trans, trans}, []int{-1, 0}, []int{0})
		tells(t, []kind{{Tag: api.Contract, N: 6, List: lists{u}, Inner: []kind{graph()}}}, []int{0, 0, -1, -1, 0, 0}, []int{0, 1, 2, 3})
		tells(t, []kind{{Tag: api.Restrict, List: lists{u}, Inner: []kind{graph()}}, {}}, nil, nil)
	}
}

// roomy tells a list like another one, in memory of its own, with sevens behind it.
func roomy(l []int) []int { return append(slices.Clone(l), 7, 7, 7)[:len(l)] }

// untouched tells whether a list that was made so is as it was, and the sevens behind it.
func untouched(l, was []int) bool {
	return slices.Equal(l[:len(l)+3], append(slices.Clone(was), 7, 7, 7))
}

// overwrite writes into a list, as far as its memory goes.
func overwrite(l []int) {
	for i := range l[:cap(l)] {
		l[:cap(l)][i] = -9
	}
}

// ofTags tells so many matroids, the first one of this tag, each time in new memory.
func ofTags(tag, many int) []kind {
	var l []kind
	for i := range many {
		l = append(l, ofEachTag()[(tag+3*i)%api.Tags].m)
	}
	return l
}

func TestArgumentsStay(t *testing.T) {
	for tag := range api.Tags {
		for many := 1; many <= 8; many++ {
			fresh, l := ofTags(tag, many), ofTags(tag, many+1)[:many]
			union.Max(l)
			for bit := range 1 << 6 {
				u := roomy(some(bit))
				union.Bound(l, u)
				if !untouched(u, some(bit)) {
					t.Fatalf("%v: %v was changed to %v", fresh, some(bit), u)
				}
			}
			if !reflect.DeepEqual(l, fresh) || !reflect.DeepEqual(l[:many+1], ofTags(tag, many+1)) {
				t.Fatalf("%v was changed to %v", fresh, l)
			}
		}
	}
	for bit := range 256 {
		was := []int{bit & 3, bit >> 2 & 3, bit >> 4 & 3, bit >> 6}
		of := roomy(was)
		for k := range 4 {
			overwrite(union.Class(of, k))
			if !untouched(of, was) {
				t.Fatalf("%v was changed to %v", was, of)
			}
		}
	}
}

// scribble writes into all lists of matroids, and of those within.
func scribble(all []kind) {
	for i, m := range all {
		for _, l := range m.List {
			overwrite(l)
		}
		scribble(m.Inner)
		all[i] = kind{}
	}
}

func TestAnswersShareNothing(t *testing.T) {
	for tag := range api.Tags {
		for many := 1; many <= 8; many++ {
			l := ofTags(tag, many)
			if many < 4 {
				// So few that some are left.
				for i, m := range l {
					l[i] = kind{Tag: api.Trunc, N: 6, A: 1, Inner: []kind{m}}
				}
			}
			of, u, _ := union.Max(l)
			other, _, _ := union.Max(l)
			was, with := slices.Clone(of), slices.Clone(u)
			// What is written into an argument is in no answer, nor what is written into one answer in another one.
			scribble(l)
			if !slices.Equal(of, was) || !slices.Equal(u, with) {
				t.Errorf("tag %d, %d matroids: %v, %v became %v, %v", tag, many, was, with, of, u)
			}
			overwrite(of)
			if !slices.Equal(u, with) || !slices.Equal(other, was) {
				t.Errorf("tag %d, %d matroids: %v, %v became %v, %v", tag, many, was, with, other, u)
			}
			overwrite(u)
			if !slices.Equal(other, was) {
				t.Errorf("tag %d, %d matroids: %v became %v", tag, many, was, other)
			}
		}
	}
}

func TestOneListInSeveralPlaces(t *testing.T) {
	// The same memory is the lists of several matroids, and the set of a Bound.
	part := []int{0, 1, 2}
	m := kind{Tag: api.Part, N: 3, A: 3, List: lists{part, part}}
	l := []kind{m, {Tag: api.Restrict, N: 3, List: lists{part}, Inner: []kind{m}}}
	tells(t, l, []int{-1, 0, 0}, []int{0})
	bounds(t, l, part, 4)
	if !slices.Equal(part, []int{0, 1, 2}) {
		t.Errorf("0 1 2 was changed to %v", part)
	}
}

func TestNothingIsKept(t *testing.T) {
	m, all := kind{N: 2, A: 1}, free(2)
	for range 3 {
		tells(t, []kind{m}, []int{0, -1}, []int{0, 1})
		nothing(t, []kind{m, free(3)})
		tells(t, []kind{m, all}, []int{0, 1}, nil)
		noBound(t, []kind{m, all}, []int{2})
		tells(t, []kind{all, m}, []int{0, 0}, nil)
		neverTold(t, kind{Tag: 99})
		bounds(t, []kind{m, all}, []int{0, 1}, 3)
		class(t, []int{0, 1}, 1, 1)
	}
}
