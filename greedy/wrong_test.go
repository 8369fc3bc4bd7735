package greedy_test

import (
	"reflect"
	"slices"
	"testing"

	"greenwood/api"
	"greenwood/greedy"
)

// nothing holds that of a matroid and weights that may not be nothing is told, and false.
func nothing(t *testing.T, m kind, w []int) {
	t.Helper()
	may(t, m, w, false)
	best(t, m, w)
	for _, k := range []int{least, -1, 0, 1, 2, greatest} {
		takes(t, m, w, k)
	}
}

// mayNotBe holds that of a matroid nothing is told, whatever its weights.
func mayNotBe(t *testing.T, m kind) {
	t.Helper()
	for n := range 9 {
		nothing(t, m, make([]int, n))
		nothing(t, m, slices.Repeat([]int{1}, n))
	}
	nothing(t, m, nil)
	nothing(t, m, make([]int, min(max(m.N, 0), 70)))
}

func TestTooFewOrTooMany(t *testing.T) {
	for _, c := range ofEachTag() {
		for _, n := range []int{0, 1, c.m.N - 1, c.m.N + 1, 2 * c.m.N, 64, 65, 1 << 20} {
			if n != c.m.N {
				nothing(t, c.m, slices.Repeat([]int{1}, n))
			}
		}
		nothing(t, c.m, nil)
		nothing(t, c.m, c.w[1:])
		nothing(t, c.m, append(c.w, 0))
	}
}

func TestGreatestWeights(t *testing.T) {
	m := kind{N: 3, A: 2}
	for at := range 3 {
		for _, x := range []int{heavy, heavy - 1} {
			w := []int{1, 1, 1}
			w[at] = x
			may(t, m, w, true)
			takes(t, m, w, 1, at)
			w[at] = -x
			may(t, m, w, true)
			takes(t, m, w, 2, slices.Delete([]int{0, 1, 2}, at, at+1)...)
			best(t, m, w, slices.Delete([]int{0, 1, 2}, at, at+1)...)
		}
		for _, x := range []int{heavy + 1, -heavy - 1, 2 * heavy, -2 * heavy, greatest, least, least + 1} {
			w := []int{1, 1, 1}
			w[at] = x
			nothing(t, m, w)
			nothing(t, kind{N: 3}, w)
		}
	}
	all := []int{heavy, -heavy, heavy}
	may(t, m, all, true)
	takes(t, m, all, 3, 0, 2)
	best(t, m, all, 0, 2)
	nothing(t, m, []int{heavy + 1, heavy + 1, heavy + 1})
	// Also of an element that is never taken.
	nothing(t, graph(), []int{1, 1, 1, heavy + 1, 1, 1})
	nothing(t, graph(), []int{1, 1, 1, -heavy - 1, 1, 1})
}

func TestWhatMayNotBe(t *testing.T) {
	in := []kind{graph()}
	for _, m := range []kind{
		{Tag: -1}, {Tag: api.Tags}, {Tag: 99}, {Tag: least, N: 3}, {Tag: greatest, N: 3}, {N: -1}, {N: 65}, {N: 65, A: 2}, {N: least}, {N: greatest},
		{N: 3, A: 4}, {N: 3, A: -1}, {N: 3, A: 2, B: 1}, {N: 3, A: 2, List: lists{nil}}, {N: 3, A: 2, Inner: in},
		{Tag: api.Graph}, {Tag: api.Graph, N: 2, A: 2, List: lists{{0, 1}}}, {Tag: api.Graph, N: 1, A: 2, List: lists{{0, 2}}},
		{Tag: api.Part, N: 2, A: 1, List: lists{{0, 1}, {1}}}, {Tag: api.Part, N: 1, A: 1, List: lists{{0}, {65}}},
		{Tag: api.Trans, N: 1, A: 2, List: lists{{2}}}, {Tag: api.Trans, N: 1, A: 2, List: lists{{1, 0}}},
		{Tag: api.Linear, N: 1, A: 1, B: 4, List: lists{{1}}}, {Tag: api.Linear, N: 1, A: 1, B: 5, List: lists{{5}}},
		{Tag: api.Restrict, N: 1, List: lists{{6}}, Inner: in}, {Tag: api.Restrict, N: 2, List: lists{{1, 0}}, Inner: in},
		{Tag: api.Contract, N: 6, List: lists{{1}}, Inner: in}, {Tag: api.Contract, N: 5, List: lists{{1}}},
		{Tag: api.Trunc, N: 6, A: 65, Inner: in}, {Tag: api.Trunc}, {Tag: api.Dual, N: 5, Inner: in}, {Tag: api.Dual},
		{Tag: api.Sum}, {Tag: api.Sum, N: 7, Inner: in}, {Tag: api.Sum, N: 9, Inner: slices.Repeat([]kind{{N: 1}}, 9)},
	} {
		mayNotBe(t, m)
		mayNotBe(t, kind{Tag: api.Dual, N: m.N, Inner: []kind{m}})
		mayNotBe(t, kind{Tag: api.Sum, N: m.N + 2, Inner: []kind{{N: 2, A: 2}, m}})
	}
}

func TestTooDeep(t *testing.T) {
	deepest(func(m kind) {
		w := make([]int, m.N)
		may(t, m, w, true)
		for _, f := range arounds() {
			if m.N > 0 {
				nothing(t, f(m), make([]int, f(m).N))
			}
		}
	})
	for _, many := range []int{3, 4, 5, 1000, 1 << 16} {
		m := graph()
		for range many {
			m = kind{Tag: api.Sum, N: 6, Inner: []kind{m}}
		}
		if w := []int{1, 5, 3, 9, 2, 2}; many < api.MaxDeep {
			takes(t, m, w, 6, 1, 2, 4)
		} else {
			nothing(t, m, w)
		}
	}
	// A list that has itself within has no end.
	for tag := api.Restrict; tag < api.Tags; tag++ {
		l := make([]kind, 8)
		for i := range l {
			l[i] = kind{Tag: tag, Inner: l}
		}
		mayNotBe(t, l[0])
	}
}

func TestNilAndEmpty(t *testing.T) {
	for _, l := range []lists{nil, {}} {
		for _, in := range [][]kind{nil, {}} {
			for _, w := range [][]int{nil, {}} {
				may(t, kind{List: l, Inner: in}, w, true)
				may(t, kind{Tag: api.Graph, A: 1, List: l, Inner: in}, w, true)
				nothing(t, kind{N: 1, List: l, Inner: in}, w)
				nothing(t, kind{Tag: api.Sum, List: l, Inner: in}, w)
			}
			takes(t, kind{N: 2, A: 1, List: l, Inner: in}, []int{1, 2}, 2, 1)
			best(t, kind{N: 2, A: 1, List: l, Inner: in}, []int{1, 2}, 1)
		}
		takes(t, kind{Tag: api.Sum, N: 2, List: l, Inner: []kind{{N: 2, A: 1}}}, []int{1, 2}, 2, 1)
	}
	for _, s := range [][]int{nil, {}} {
		takes(t, kind{Tag: api.Trans, N: 2, A: 2, List: lists{s, {0}}}, []int{7, -1}, 2, 1)
		best(t, kind{Tag: api.Contract, N: 6, List: lists{s}, Inner: []kind{graph()}}, []int{1, 5, 3, 9, 2, 2}, 1, 2, 4)
		best(t, kind{Tag: api.Restrict, List: lists{s}, Inner: []kind{graph()}}, s)
	}
}

// roomy tells a list like another one, in memory of its own, with sevens behind it.
func roomy(l []int) []int { return append(slices.Clone(l), 7, 7, 7)[:len(l)] }

// overwrite writes into a list, as far as its memory goes.
func overwrite(l []int) {
	for i := range l[:cap(l)] {
		l[:cap(l)][i] = -9
	}
}

func TestArgumentsStay(t *testing.T) {
	fresh := ofEachTag()
	for i, c := range ofEachTag() {
		w, s := roomy(c.w), roomy(c.all)
		told := lists{greedy.Take(c.m, w, 2), greedy.Take(c.m, w, greatest), greedy.Best(c.m, w)}
		want := lists{slices.Clone(told[0]), slices.Clone(told[1]), slices.Clone(told[2])}
		greedy.May(c.m, w)
		greedy.Weight(w, s)
		if !reflect.DeepEqual(c.m, fresh[i].m) || !slices.Equal(w[:len(w)+3], append(fresh[i].w, 7, 7, 7)) || !slices.Equal(s[:len(s)+3], append(fresh[i].all, 7, 7, 7)) {
			t.Fatalf("%v was changed to %v, %v and %v", fresh[i], c.m, w, s)
		}
		// What is written into an argument, or into another answer, is in no answer.
		overwrite(w)
		for at, l := range told {
			if !slices.Equal(l, want[at]) {
				t.Fatalf("%v: %v, and before %v", fresh[i], l, want[at])
			}
			overwrite(l)
		}
		if !reflect.DeepEqual(c.m, fresh[i].m) {
			t.Fatalf("%v was changed to %v by its answers", fresh[i].m, c.m)
		}
		takes(t, c.m, fresh[i].w, greatest, fresh[i].all...)
	}
}

func TestNothingIsKept(t *testing.T) {
	m, w := graph(), []int{1, 5, 3, 9, 2, 2}
	for range 3 {
		takes(t, m, w, 2, 1, 2)
		best(t, m, []int{4, 4, 4, 4, 0, 1}, 0, 1, 5)
		nothing(t, m, nil)
		nothing(t, kind{Tag: 99}, w)
		best(t, m, w, 1, 2, 4)
		weighs(t, w, []int{1, 2, 4}, 10)
	}
}
