package span_test

import (
	"math/bits"
	"slices"
	"testing"

	"greenwood/api"
	"greenwood/indep"
	"greenwood/set"
	"greenwood/span"
)

// A table has of each subset of a matroid's elements, as the bits of its place, whether it is independent.
type table []bool

// tableOf tells a matroid's table.
func tableOf(m kind) table {
	l := make(table, 1<<m.N)
	for bit := range l {
		l[bit] = indep.Indep(m, some(bit))
	}
	return l
}

// some tells the set whose bits these are.
func some(bit int) []int {
	return slices.DeleteFunc(set.All(bits.Len(uint(bit))), func(x int) bool { return bit>>x&1 == 0 })
}

// largest tells the largest independent set that lies in another one, of several the one whose elements come first.
func (in table) largest(bit int) []int {
	var best []int
	for part := range bit + 1 {
		if part&^bit != 0 || !in[part] {
			continue
		}
		if s := some(part); len(s) > len(best) || len(s) == len(best) && slices.Compare(s, best) < 0 {
			best = s
		}
	}
	return best
}

// smallest tells the smallest set that is not independent and lies in another one.
func (in table) smallest(bit int) []int {
	best := some(bit)
	for part := range bit + 1 {
		if s := some(part); part&^bit == 0 && !in[part] && len(s) < len(best) {
			best = s
		}
	}
	return best
}

// likeTable holds what is told of each subset of a matroid's elements against its table.
func likeTable(t *testing.T, m kind) {
	t.Helper()
	in := tableOf(m)
	best := make(lists, len(in))
	for bit := range in {
		best[bit] = in.largest(bit)
	}
	ranks(t, m, len(best[len(in)-1]))
	for bit := range in {
		var spanned []int
		for x := range m.N {
			if len(best[bit|1<<x]) == len(best[bit]) {
				spanned = append(spanned, x)
			}
		}
		bases(t, m, some(bit), best[bit], spanned)
		for x := -1; x <= m.N; x++ {
			if !in[bit] || x < 0 || x == m.N || bit>>x&1 == 1 || in[bit|1<<x] {
				noCircuit(t, m, some(bit), x)
			} else {
				circuit(t, m, some(bit), x, in.smallest(bit|1<<x)...)
			}
		}
	}
	if t.Failed() {
		t.FailNow()
	}
}

// follows holds of what is told of each subset that a base spans what the set does, and that a circuit's parts are
// independent.
func follows(t *testing.T, m kind) {
	t.Helper()
	for bit := range 1 << m.N {
		s := some(bit)
		base, spanned := span.Base(m, s), span.Span(m, s)
		if !set.Sub(base, s) || !indep.Indep(m, base) || !slices.Equal(span.Base(m, base), base) {
			t.Fatalf("Base(%v, %v): %v", m, s, base)
		}
		if !set.Sub(s, spanned) || !slices.Equal(span.Span(m, base), spanned) || !slices.Equal(span.Span(m, spanned), spanned) {
			t.Fatalf("Span(%v, %v): %v, and of its base %v", m, s, spanned, span.Span(m, base))
		}
		for _, x := range set.Minus(spanned, base) {
			l, ok := span.Circuit(m, base, x)
			if !ok || indep.Indep(m, l) || !set.Has(l, x) || !set.Sub(l, set.Union(base, []int{x})) {
				t.Fatalf("Circuit(%v, %v, %d): %v, %v", m, base, x, l, ok)
			}
			for _, y := range l {
				if !indep.Indep(m, set.Minus(l, []int{y})) {
					t.Fatalf("Circuit(%v, %v, %d): %v, also without %d", m, base, x, l, y)
				}
			}
		}
	}
}

// made tells matroids of at most most elements that are made of one.
func made(m kind, most int) []kind {
	in, odd := []kind{m}, slices.DeleteFunc(set.All(m.N), func(x int) bool { return x%2 == 0 })
	l := []kind{
		{Tag: api.Restrict, N: len(odd), List: lists{odd}, Inner: in},
		{Tag: api.Contract, N: m.N - len(odd), List: lists{odd}, Inner: in},
		{Tag: api.Trunc, N: m.N, A: 1, Inner: in},
		{Tag: api.Trunc, N: m.N, A: 2, Inner: in},
		{Tag: api.Dual, N: m.N, Inner: in},
		{Tag: api.Sum, N: m.N, Inner: in},
		{Tag: api.Sum, N: m.N + 2, Inner: []kind{{N: 2, A: 1}, m}},
	}
	return slices.DeleteFunc(l, func(m kind) bool { return m.N > most })
}

func TestLikeTable(t *testing.T) {
	for _, m := range slices.Concat(kinds(), bare(), flat()) {
		likeTable(t, m)
		follows(t, m)
		for _, of := range made(m, 6) {
			likeTable(t, of)
			follows(t, of)
		}
	}
}

func TestLikeTableDeep(t *testing.T) {
	for _, m := range kinds()[:api.Restrict] {
		for _, two := range made(m, 6) {
			for i, three := range made(two, 5) {
				follows(t, three)
				for j, four := range made(three, 5) {
					// Each kind within each, and each around each.
					if (i+j)%3 == 0 {
						likeTable(t, four)
					}
				}
			}
		}
	}
}

func TestLikeTableSmallGraphs(t *testing.T) {
	ends := lists{{0, 0}, {0, 1}, {1, 0}, {1, 2}, {2, 0}, {2, 3}}
	for _, a := range ends {
		for _, b := range ends {
			for _, c := range ends {
				m := kind{Tag: api.Graph, N: 4, A: 4, List: lists{a, b, {0, 2}, c}}
				likeTable(t, m)
				likeTable(t, kind{Tag: api.Dual, N: 4, Inner: []kind{m}})
			}
		}
	}
}

func TestLikeTableSmallColumns(t *testing.T) {
	for bit := 0; bit < 1<<10; bit += 7 {
		m := kind{Tag: api.Linear, N: 5, A: 2, B: 2}
		for x := range 5 {
			m.List = append(m.List, []int{bit >> (2 * x) & 1, bit >> (2*x + 1) & 1})
		}
		likeTable(t, m)
	}
}
