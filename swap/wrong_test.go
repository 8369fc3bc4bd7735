package swap_test

import (
	"math"
	"reflect"
	"slices"
	"testing"

	"greenwood/api"
	"greenwood/set"
	"greenwood/swap"
)

// refused holds that of two matroids and a list nothing is told. Matroids that have no end can't be told themselves.
func refused(a, b kind, s []int) bool {
	adj, from, to, e := swap.Graph(a, b, s)
	return e == api.ErrArg && adj == nil && from == nil && to == nil && !swap.May(a, b, s)
}

// nothing holds that a list is no common set of two matroids, either way.
func nothing(t *testing.T, a, b kind, s []int) {
	t.Helper()
	if !refused(a, b, s) || !refused(b, a, s) {
		t.Errorf("%v is a common set of %v and %v", s, a, b)
	}
}

// neverTold holds that nothing is told of a matroid with others, whatever the list.
func neverTold(t *testing.T, m kind) {
	t.Helper()
	partners := []kind{{}, free(1), free(3), free(6), {N: m.N, A: m.N}, {N: m.N}, m}
	for _, s := range [][]int{nil, {}, {0}, {0, 1}, {3}, {-1}, {1, 0}, {64}} {
		for i, b := range partners {
			if !refused(m, b, s) || !refused(b, m, s) {
				t.Errorf("%v is a common set of tag %d, of %d elements, with partner %d", s, m.Tag, m.N, i)
			}
		}
	}
}

func TestUnlikeNumbers(t *testing.T) {
	for n := range 8 {
		for _, s := range [][]int{nil, {}, {0}, {0, 1}} {
			if n != 6 {
				nothing(t, graph(), free(n), s)
				nothing(t, free(6), free(n), s)
			}
		}
	}
	for _, c := range ofEachTag() {
		nothing(t, c.m, free(5), c.s)
		nothing(t, c.m, free(7), c.s)
		nothing(t, c.m, free(64), c.s)
		nothing(t, c.m, kind{}, nil)
		nothing(t, c.m, kind{Tag: api.Sum, N: 12, Inner: []kind{c.m, c.m}}, c.s)
	}
}

func TestIndependentInOneAlone(t *testing.T) {
	for _, c := range ofEachTag() {
		may(t, c.m, free(6), c.s, true)
		nothing(t, c.m, kind{N: 6}, c.s)
		nothing(t, c.m, kind{N: 6, A: len(c.s) - 1}, c.s)
		may(t, c.m, kind{N: 6, A: len(c.s)}, c.s, true)
		// All are too many for each of these.
		nothing(t, c.m, free(6), set.All(6))
		// Neither has room for them.
		nothing(t, c.m, kind{N: 6, A: 5}, set.All(6))
		nothing(t, c.m, c.m, set.All(6))
	}
	nothing(t, graph(), kind{N: 6, A: 3}, []int{0, 1, 2})
	nothing(t, graph(), kind{N: 6, A: 2}, []int{0, 1, 4})
	nothing(t, graph(), kind{N: 6, A: 2}, []int{0, 1, 2})
	may(t, graph(), kind{N: 6, A: 3}, []int{0, 1, 4}, true)
	nothing(t, graph(), free(6), []int{3})
}

func TestNoSet(t *testing.T) {
	for _, c := range ofEachTag() {
		for _, s := range [][]int{{1, 0}, {0, 0}, {4, 0}, {0, 1, 1}, {0, 4, 1}, {4, 4}, {-1}, {-1, 0}, {0, -1}} {
			nothing(t, c.m, free(6), s)
			nothing(t, c.m, c.m, s)
		}
		back := slices.Clone(c.s)
		slices.Reverse(back)
		nothing(t, c.m, free(6), back)
		nothing(t, c.m, free(6), append(c.s, c.s[0]))
	}
}

func TestNoElement(t *testing.T) {
	for _, x := range []int{math.MinInt, -greatest, -1, 6, 7, 63, 64, 65, greatest, greatest + 1, math.MaxInt} {
		for _, c := range ofEachTag() {
			nothing(t, c.m, free(6), []int{x})
			nothing(t, c.m, free(6), append(slices.Clone(c.s), x))
			nothing(t, free(6), free(6), []int{0, x})
		}
	}
	nothing(t, free(6), free(6), set.All(7))
	nothing(t, free(6), free(6), set.All(100000))
	nothing(t, free(64), free(64), set.All(65))
	nothing(t, free(64), free(64), []int{64})
}

func TestWhatMayNotBe(t *testing.T) {
	in := []kind{graph()}
	for _, m := range []kind{
		{Tag: -1}, {Tag: api.Tags}, {Tag: 99}, {Tag: math.MinInt, N: 3}, {Tag: math.MaxInt, N: 3}, {N: -1}, {N: 65}, {N: 65, A: 2}, {N: math.MinInt}, {N: math.MaxInt},
		{N: 3, A: 4}, {N: 3, A: -1}, {N: 3, A: 2, B: 1}, {N: 3, A: 2, List: lists{nil}}, {N: 3, A: 2, Inner: in},
		{Tag: api.Graph}, {Tag: api.Graph, N: 2, A: 2, List: lists{{0, 1}}}, {Tag: api.Graph, N: 1, A: 2, List: lists{{0, 2}}},
		{Tag: api.Part, N: 2, A: 1, List: lists{{0, 1}, {1}}}, {Tag: api.Part, N: 1, A: 1, List: lists{{0}, {65}}},
		{Tag: api.Trans, N: 1, A: 2, List: lists{{2}}}, {Tag: api.Trans, N: 1, A: 2, List: lists{{1, 0}}},
		{Tag: api.Linear, N: 1, A: 1, B: 4, List: lists{{1}}}, {Tag: api.Linear, N: 1, A: 1, B: 5, List: lists{{5}}},
		{Tag: api.Restrict, N: 1, List: lists{{6}}, Inner: in}, {Tag: api.Restrict, N: 2, List: lists{{1, 0}}, Inner: in},
		{Tag: api.Contract, N: 6, List: lists{{1}}, Inner: in}, {Tag: api.Contract, N: 5, List: lists{{1}}},
		{Tag: api.Trunc, N: 6, A: 65, Inner: in}, {Tag: api.Trunc}, {Tag: api.Dual, N: 5, Inner: in}, {Tag: api.Dual},
		{Tag: api.Sum}, {Tag: api.Sum, N: 7, Inner: in}, {Tag: api.Sum, N: 9, Inner: slices.Repeat([]kind{{N: 1}}, 9)},
	} {
		neverTold(t, m)
		neverTold(t, kind{Tag: api.Dual, N: m.N, Inner: []kind{m}})
		neverTold(t, kind{Tag: api.Sum, N: m.N + 2, Inner: []kind{free(2), m}})
	}
}

func TestTooDeep(t *testing.T) {
	for _, tag := range []int{api.Dual, api.Sum} {
		for _, many := range []int{0, 1, 2, 3, 4, 5, 1000, 1 << 16} {
			m := graph()
			for range many {
				m = kind{Tag: tag, N: 6, Inner: []kind{m}}
			}
			if many < api.MaxDeep {
				may(t, m, free(6), []int{0}, true)
			} else {
				neverTold(t, m)
			}
		}
	}
	// A list that has itself within has no end.
	for tag := api.Restrict; tag < api.Tags; tag++ {
		l := make([]kind, 8)
		for i := range l {
			l[i] = kind{Tag: tag, Inner: l}
		}
		neverTold(t, l[0])
	}
}

func TestNilAndEmpty(t *testing.T) {
	for _, s := range [][]int{nil, {}} {
		for _, l := range []lists{nil, {}} {
			for _, in := range [][]kind{nil, {}} {
				a := kind{N: 2, A: 1, List: l, Inner: in}
				bothWays(t, a, free(2), s, make(lists, 2), []int{0, 1}, []int{0, 1})
				bothWays(t, a, a, []int{1}, lists{{1}, {0}}, nil, nil)
				bothWays(t, kind{List: l, Inner: in}, kind{}, s, nil, nil, nil)
				bothWays(t, kind{Tag: api.Graph, A: 1, List: l, Inner: in}, kind{List: l}, s, nil, nil, nil)
				neverTold(t, kind{Tag: api.Dual, List: l, Inner: in})
			}
			sum := kind{Tag: api.Sum, N: 6, List: l, Inner: []kind{graph()}}
			bothWays(t, sum, kind{N: 6}, s, make(lists, 6), []int{0, 1, 2, 4, 5}, nil)
		}
		trans := kind{Tag: api.Trans, N: 2, A: 2, List: lists{s, {0}}}
		bothWays(t, trans, free(2), s, make(lists, 2), []int{1}, []int{0, 1})
		bothWays(t, trans, free(2), []int{1}, lists{{1}, nil}, nil, []int{0})
		whole := kind{Tag: api.Contract, N: 6, List: lists{s}, Inner: []kind{graph()}}
		bothWays(t, whole, kind{N: 6}, s, make(lists, 6), []int{0, 1, 2, 4, 5}, nil)
		bothWays(t, kind{Tag: api.Restrict, List: lists{s}, Inner: []kind{graph()}}, kind{}, s, nil, nil, nil)
	}
}

// roomy tells a list like another one, in memory of its own, with sevens behind it.
func roomy(l []int) []int { return append(slices.Clone(l), 7, 7, 7)[:len(l)] }

// untouched tells whether a list that was made so is as it was, and the sevens behind it.
func untouched(l, was []int) bool {
	return slices.Equal(l[:len(l)+3], append(slices.Clone(was), 7, 7, 7))
}

// overwrite writes into a list, as far as its memory goes.
func overwrite(l []int) {
	for i := range l[:cap(l)] {
		l[:cap(l)][i] = -9
	}
}

// answers tells all lists that are told of a common set.
func answers(a, b kind, s []int) lists {
	adj, from, to, _ := swap.Graph(a, b, s)
	return append(slices.Clone(adj), from, to)
}

func TestArgumentsStay(t *testing.T) {
	fresh := ofEachTag()
	for i, c := range ofEachTag() {
		for j, d := range ofEachTag() {
			for bit := range 1 << 6 {
				if !swap.May(c.m, d.m, some(bit)) {
					continue
				}
				s := roomy(some(bit))
				told, want := answers(c.m, d.m, s), answers(c.m, d.m, some(bit))
				if !untouched(s, some(bit)) || !reflect.DeepEqual(c, fresh[i]) || !reflect.DeepEqual(d, fresh[j]) {
					t.Fatalf("%v, %v, %v was changed to %v, %v, %v", fresh[i].m, fresh[j].m, some(bit), c.m, d.m, s)
				}
				// What is written into an argument, or into another answer, is in no answer.
				overwrite(s)
				for at, l := range told {
					if !slices.Equal(l, want[at]) {
						t.Fatalf("%v, %v, %v: answer %d is %v, and was %v", c.m, d.m, some(bit), at, l, want[at])
					}
					overwrite(l)
				}
				if !reflect.DeepEqual(c, fresh[i]) || !reflect.DeepEqual(d, fresh[j]) {
					t.Fatalf("%v, %v was changed to %v, %v by the answers", fresh[i].m, fresh[j].m, c.m, d.m)
				}
			}
		}
	}
}

func TestSameMemoryTwice(t *testing.T) {
	// Both matroids may be the same one, and the answers of both sides are still apart.
	for _, c := range ofEachTag() {
		adj, from, to, _ := swap.Graph(c.m, c.m, c.s)
		overwrite(from)
		if !slices.Equal(to, c.more) {
			t.Errorf("%v, %v: those that may be added in both are the same memory", c.m, c.s)
		}
		for _, l := range adj {
			overwrite(l)
		}
		if !slices.Equal(to, c.more) {
			t.Errorf("%v, %v: %v shares what the arcs have", c.m, c.s, to)
		}
	}
}

func TestNothingIsKept(t *testing.T) {
	a, b := kind{N: 2, A: 1}, free(2)
	for range 3 {
		tells(t, a, a, []int{0}, lists{{1}, {0}}, nil, nil)
		tells(t, a, b, []int{0}, lists{{1}, {0}}, nil, []int{1})
		nothing(t, a, b, []int{0, 1})
		tells(t, b, b, []int{0, 1}, lists{nil, nil}, nil, nil)
		nothing(t, graph(), b, nil)
		tells(t, b, a, nil, lists{nil, nil}, []int{0, 1}, []int{0, 1})
		turns(t, []int{0}, []int{1}, 0, 1)
		turns(t, []int{0}, []int{1, 1})
	}
}
