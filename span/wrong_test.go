package span_test

import (
	"math"
	"reflect"
	"slices"
	"testing"

	"greenwood/api"
	"greenwood/set"
	"greenwood/span"
)

// nothing holds that of a matroid and a list nothing is told, and false.
func nothing(t *testing.T, m kind, s []int) {
	t.Helper()
	bases(t, m, s, nil, nil)
	for _, x := range []int{-1, 0, 1, 3} {
		noCircuit(t, m, s, x)
	}
}

// mayNotBe holds that of a matroid nothing is told, but false and -1.
func mayNotBe(t *testing.T, m kind) {
	t.Helper()
	ranks(t, m, -1)
	for _, s := range [][]int{nil, {}, {0}, {0, 1}, {3}, {-1}, {1, 0}} {
		nothing(t, m, s)
	}
}

// mayNot tells matroids that may not be.
func mayNot() []kind {
	g := []kind{graph()}
	return []kind{
		{Tag: -1}, {Tag: api.Tags}, {Tag: math.MinInt, N: 4, A: 2}, {Tag: math.MaxInt, N: 4, A: 2},
		{N: -1}, {N: 65}, {N: math.MinInt}, {N: math.MaxInt, A: 2}, {N: 4, A: 5}, {N: 4, A: -1}, {N: 4, A: 2, B: 1}, {N: 4, A: 2, List: lists{nil}}, {N: 4, A: 2, Inner: g},
		{Tag: api.Graph}, {Tag: api.Graph, N: 2, A: 2, List: lists{{0, 1}}}, {Tag: api.Graph, N: 1, A: 2, List: lists{{0, 2}}}, {Tag: api.Graph, N: 1, A: 2, List: lists{{0}}},
		{Tag: api.Part, N: 2, A: 1, List: lists{{0, 1}, {1}}}, {Tag: api.Part, N: 1, A: 1, List: lists{{0}, {65}}}, {Tag: api.Part, N: 1, A: 1, List: lists{{0}}},
		{Tag: api.Trans, N: 1, A: 2, List: lists{{2}}}, {Tag: api.Trans, N: 1, A: 2, List: lists{{1, 0}}}, {Tag: api.Trans, N: 2, A: 2, List: lists{{1}}},
		{Tag: api.Linear, N: 1, A: 1, B: 4, List: lists{{1}}}, {Tag: api.Linear, N: 1, A: 1, B: 5, List: lists{{5}}}, {Tag: api.Linear, N: 1, A: 2, B: 5, List: lists{{1}}},
		{Tag: api.Restrict, N: 1, List: lists{{6}}, Inner: g}, {Tag: api.Restrict, N: 2, List: lists{{1}}, Inner: g}, {Tag: api.Restrict, N: 2, List: lists{{1, 0}}, Inner: g},
		{Tag: api.Contract, N: 6, List: lists{{1}}, Inner: g}, {Tag: api.Contract, N: 4, List: lists{{1, 1}}, Inner: g}, {Tag: api.Contract, N: 5, List: lists{{1}}},
		{Tag: api.Trunc, N: 6, A: 65, Inner: g}, {Tag: api.Trunc, N: 5, A: 2, Inner: g}, {Tag: api.Trunc}, {Tag: api.Dual, N: 5, Inner: g}, {Tag: api.Dual},
		{Tag: api.Sum}, {Tag: api.Sum, N: 6}, {Tag: api.Sum, N: 7, Inner: g}, {Tag: api.Sum, N: 9, Inner: slices.Repeat([]kind{{N: 1}}, 9)},
		{Tag: api.Sum, N: 65, Inner: []kind{{N: 64}, {N: 1}}},
	}
}

// wrapped tells a matroid with so many around it.
func wrapped(m kind, tag, many int) kind {
	for range many {
		m = kind{Tag: tag, N: m.N, Inner: []kind{m}}
	}
	return m
}

func TestWhatMayNotBe(t *testing.T) {
	for _, m := range mayNot() {
		mayNotBe(t, m)
		for tag := api.Trunc; tag <= api.Sum; tag++ {
			mayNotBe(t, wrapped(m, tag, 1))
		}
		mayNotBe(t, kind{Tag: api.Sum, N: 4 + m.N, Inner: []kind{{N: 4, A: 2}, m}})
	}
}

func TestTooDeep(t *testing.T) {
	for _, tag := range []int{api.Dual, api.Sum} {
		m := wrapped(graph(), tag, 3)
		ranks(t, m, 3)
		if len(span.Base(m, set.All(6))) != 3 || len(span.Span(m, set.All(6))) != 6 {
			t.Errorf("%v may be", m)
		}
		for _, many := range []int{4, 5, 6, 1000, 1 << 16} {
			mayNotBe(t, wrapped(graph(), tag, many))
		}
		l := make([]kind, 8)
		for i := range l {
			l[i] = kind{Tag: tag, Inner: l}
		}
		mayNotBe(t, l[0])
	}
	mayNotBe(t, kind{Tag: api.Restrict, N: 1, List: lists{{3}}, Inner: []kind{wrapped(graph(), api.Dual, 3)}})
	mayNotBe(t, kind{Tag: api.Contract, N: 5, List: lists{{3}}, Inner: []kind{wrapped(graph(), api.Dual, 3)}})
	mayNotBe(t, wrapped(kind{Tag: api.Dual, N: 4, Inner: []kind{{N: 4, A: 5}}}, api.Sum, 3))
}

func TestNoSet(t *testing.T) {
	for _, m := range kinds() {
		for _, s := range [][]int{{1, 0}, {0, 0}, {0, 1, 1}, {0, 2, 1}, {2, 1, 0}, {-1, 0}, {0, -1}} {
			nothing(t, m, s)
		}
	}
}

func TestNoElement(t *testing.T) {
	for _, m := range append(kinds(), kind{N: 64, A: 64}) {
		for _, x := range []int{math.MinInt, -1 << 40, -1, m.N, m.N + 1, 65, 1 << 40, 1<<40 + 1, math.MaxInt} {
			nothing(t, m, []int{x})
			nothing(t, m, []int{0, x})
			nothing(t, m, append(set.All(m.N), x))
			noCircuit(t, m, nil, x)
			noCircuit(t, m, []int{}, x)
			noCircuit(t, m, []int{0}, x)
			noCircuit(t, m, span.Base(m, set.All(m.N)), x)
		}
		nothing(t, m, set.All(100000))
	}
}

func TestNilAndEmpty(t *testing.T) {
	for _, s := range [][]int{nil, {}} {
		for _, l := range []lists{nil, {}} {
			for _, in := range [][]kind{nil, {}} {
				bases(t, kind{List: l, Inner: in}, s, nil, nil)
				bases(t, kind{N: 2, List: l, Inner: in}, s, nil, []int{0, 1})
				circuit(t, kind{N: 2, List: l, Inner: in}, s, 1, 1)
				noCircuit(t, kind{N: 2, A: 1, List: l, Inner: in}, s, 1)
				ranks(t, kind{N: 2, A: 1, List: l, Inner: in}, 1)
				bases(t, kind{Tag: api.Graph, A: 1, List: l, Inner: in}, s, nil, nil)
				ranks(t, kind{Tag: api.Linear, A: 2, B: 3, List: l, Inner: in}, 0)
				mayNotBe(t, kind{Tag: api.Dual, List: l, Inner: in})
			}
			sum := kind{Tag: api.Sum, N: 6, List: l, Inner: []kind{graph()}}
			bases(t, sum, s, nil, []int{3})
			circuit(t, sum, s, 3, 3)
			ranks(t, sum, 3)
		}
		bases(t, kind{Tag: api.Trans, N: 2, A: 2, List: lists{s, {0}}}, []int{0, 1}, []int{1}, []int{0, 1})
		bases(t, kind{Tag: api.Contract, N: 6, List: lists{s}, Inner: []kind{graph()}}, s, nil, []int{3})
		ranks(t, kind{Tag: api.Restrict, List: lists{s}, Inner: []kind{graph()}}, 0)
	}
}

// fill writes into a list, as far as its memory goes.
func fill(l []int) {
	l = l[:cap(l)]
	for i := range l {
		l[i] = -9
	}
}

// answers are all lists that are told of a matroid and a set, whatever element comes to it.
func answers(m kind, s []int) lists {
	l := lists{span.Base(m, s), span.Span(m, s)}
	for x := range m.N {
		c, _ := span.Circuit(m, s, x)
		l = append(l, c)
	}
	return l
}

func TestArgumentsStay(t *testing.T) {
	fresh := kinds()
	for i, m := range kinds() {
		for bit := range 1 << min(m.N, 6) {
			s := some(bit)
			// Room behind the numbers: what is there isn't the calls' to write, either.
			asked := append(slices.Clone(s), 7, 7, 7)[:len(s)]
			want, got := answers(m, s), answers(m, asked)
			span.All(m)
			for _, l := range got {
				fill(l)
			}
			if !slices.Equal(asked, s) || !slices.Equal(asked[:len(s)+3][len(s):], []int{7, 7, 7}) {
				t.Fatalf("%v was changed to %v", s, asked[:len(s)+3])
			}
			if !reflect.DeepEqual(m, fresh[i]) {
				t.Fatalf("%v was changed to %v", fresh[i], m)
			}
			got = answers(m, asked)
			fill(asked)
			if !slices.EqualFunc(got, want, slices.Equal[[]int]) {
				t.Fatalf("%v, %v: %v, and before %v", m, s, got, want)
			}
		}
	}
}

func TestAnswersAreApart(t *testing.T) {
	m := graph()
	for bit := range 1 << m.N {
		want, got := answers(m, some(bit)), answers(m, some(bit))
		for i := range got {
			fill(got[i])
			for j := i + 1; j < len(got); j++ {
				if !slices.Equal(got[j], want[j]) {
					t.Fatalf("%v: answer %d was changed by answer %d", some(bit), j, i)
				}
			}
		}
	}
}
