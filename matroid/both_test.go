package matroid_test

import (
	"math/bits"
	"slices"
	"testing"

	"greenwood/api"
	"greenwood/matroid"
)

// mayBe tells, word by word, whether a matroid may be, however deep it is.
func mayBe(m kind) bool {
	return m.N >= 0 && m.N <= 64 && m.A >= 0 && m.A <= 64 && m.Tag >= 0 && m.Tag <= 9 && (m.B == 0 || m.Tag == 4) &&
		mayBeAlone(m) && mayBeAround(m)
}

// mayBeAlone tells it of kinds that have none within, and true of others.
func mayBeAlone(m kind) bool {
	if m.Tag > 4 {
		return true
	}
	if len(m.Inner) > 0 {
		return false
	}
	switch m.Tag {
	case 0:
		return len(m.List) == 0 && m.A <= m.N
	case 2:
		return len(m.List) == 2 && len(m.List[0]) == m.N && between(m.List[0], 0, m.A-1) && len(m.List[1]) == m.A && between(m.List[1], 0, 64)
	}
	if len(m.List) != m.N || m.Tag == 1 && m.A == 0 || m.Tag == 4 && !prime(m.B) {
		return false
	}
	for _, l := range m.List {
		switch {
		case m.Tag == 1 && (len(l) != 2 || !between(l, 0, m.A-1)):
			return false
		case m.Tag == 3 && !rises(l, m.A):
			return false
		case m.Tag == 4 && (len(l) != m.A || !between(l, 0, m.B-1)):
			return false
		}
	}
	return true
}

// mayBeAround tells it of kinds that have others within, and true of others.
func mayBeAround(m kind) bool {
	if m.Tag < 5 {
		return true
	}
	if len(m.Inner) < 1 || len(m.Inner) > 8 || m.Tag < 9 && len(m.Inner) > 1 || m.A != 0 && m.Tag != 7 {
		return false
	}
	n := 0
	for _, in := range m.Inner {
		if !mayBe(in) {
			return false
		}
		n += in.N
	}
	if m.Tag > 6 {
		return len(m.List) == 0 && n == m.N
	}
	if len(m.List) != 1 || !rises(m.List[0], n) {
		return false
	}
	if m.Tag == 5 {
		return m.N == len(m.List[0])
	}
	return m.N == n-len(m.List[0])
}

// between tells whether all numbers are from one to another.
func between(l []int, from, to int) bool {
	for _, x := range l {
		if x < from || x > to {
			return false
		}
	}
	return true
}

// rises tells whether numbers from 0 to n - 1 rise, none twice.
func rises(l []int, n int) bool {
	for i := 1; i < len(l); i++ {
		if l[i-1] >= l[i] {
			return false
		}
	}
	return between(l, 0, n-1)
}

// prime tells it of small numbers, by all that might divide them.
func prime(p int) bool {
	for q := 2; q < p; q++ {
		if p%q == 0 {
			return false
		}
	}
	return p > 1
}

// depth tells how deep a matroid is, without a bound.
func depth(m kind) int {
	if m.Tag < 5 || m.Tag > 9 {
		return 1
	}
	within := 0
	for _, in := range m.Inner {
		within = max(within, depth(in))
	}
	return 1 + within
}

// likeWords holds what is told of a matroid against the words.
func likeWords(t *testing.T, m kind) {
	t.Helper()
	want := api.OK
	switch {
	case depth(m) > 4:
		want = api.ErrDeep
	case !mayBe(m):
		want = api.ErrMatroid
	}
	if got := matroid.Check(m); got != want {
		t.Fatalf("Check(%v): %d, want %d", m, got, want)
	}
	if got := matroid.Deep(m); got != min(depth(m), 5) {
		t.Fatalf("Deep(%v): %d, want %d", m, got, min(depth(m), 5))
	}
	told := want == api.OK && (m.Tag == 5 || m.Tag == 6)
	for _, s := range [...][]int{nil, {0}, {1}, {0, 1}, {0, 2}, {1, 0}} {
		if got, ok := matroid.Image(m, s); ok != (told && rises(s, m.N)) || !ok && len(got) > 0 {
			t.Fatalf("Image(%v, %v): %v, %v", m, s, got, ok)
		}
	}
}

// changed calls do with a matroid, changed in one place in each way that is near an edge.
func changed(m kind, do func(kind)) {
	for _, x := range []int{-1, 0, 1, 2, 3, 4, 5, 6, 7, 8, 9, 10, 11, 63, 64, 65, m.N - 1, m.N + 1} {
		tag, n, a, b := m, m, m, m
		tag.Tag, n.N, a.A, b.B = x, x, x, x
		for _, other := range []kind{tag, n, a, b} {
			do(other)
		}
	}
	changedLists(m.List, func(l lists) {
		other := m
		other.List = l
		do(other)
	})
	changedInner(m.Inner, func(l inner) {
		other := m
		other.Inner = l
		do(other)
	})
}

// changedLists calls do with lists, of which one is less or more, or is changed in one place.
func changedLists(l lists, do func(lists)) {
	for _, s := range [...][]int{nil, {0}, {1}, {0, 0}, {0, 1}, {2, 3}} {
		do(append(slices.Clone(l), s))
	}
	for i, s := range l {
		do(slices.Delete(slices.Clone(l), i, i+1))
		with := func(s []int) {
			other := slices.Clone(l)
			other[i] = s
			do(other)
		}
		with(nil)
		for _, x := range []int{-1, 0, 1, 2, 3, 4, 5, 64, 65} {
			with(append(slices.Clone(s), x))
			for j := range s {
				other := slices.Clone(s)
				other[j] = x
				with(other)
			}
		}
		for j := range s {
			with(slices.Delete(slices.Clone(s), j, j+1))
		}
	}
}

// changedInner calls do with matroids, of which one is less or more, or is another, or is changed in one place.
func changedInner(l inner, do func(inner)) {
	for _, m := range kinds() {
		do(append(slices.Clone(l), m))
	}
	for i, m := range l {
		do(slices.Delete(slices.Clone(l), i, i+1))
		with := func(m kind) {
			other := slices.Clone(l)
			other[i] = m
			do(other)
		}
		for _, other := range kinds() {
			with(other)
		}
		for _, around := range []int{1, 2, 3, 4} {
			with(wrapped(m, around))
		}
		changed(m, with)
	}
}

func TestChangedInOnePlace(t *testing.T) {
	for _, m := range kinds() {
		for around := range 5 {
			changed(wrapped(m, around), func(m kind) { likeWords(t, m) })
		}
	}
}

func TestChangedInTwoPlaces(t *testing.T) {
	small := []kind{
		{N: 2, A: 1},
		{Tag: api.Graph, N: 2, A: 2, List: lists{{0, 1}, {1, 1}}},
		{Tag: api.Part, N: 2, A: 2, List: lists{{1, 0}, {64, 0}}},
		{Tag: api.Trans, N: 2, A: 2, List: lists{{1}, {0, 1}}},
		{Tag: api.Linear, N: 2, A: 2, B: 3, List: lists{{2, 1}, {0, 1}}},
		{Tag: api.Restrict, N: 1, List: lists{{1}}, Inner: inner{{N: 2, A: 1}}},
		{Tag: api.Contract, N: 1, List: lists{{1}}, Inner: inner{{N: 2, A: 1}}},
		{Tag: api.Trunc, N: 2, A: 1, Inner: inner{{N: 2, A: 1}}},
		{Tag: api.Dual, N: 2, Inner: inner{{N: 2, A: 1}}},
		{Tag: api.Sum, N: 3, Inner: inner{{N: 2, A: 1}, {N: 1, A: 1}}},
	}
	for _, m := range small {
		changed(m, func(m kind) {
			changed(m, func(m kind) { likeWords(t, m) })
		})
	}
}

func TestImageOfAllSmallSets(t *testing.T) {
	for n := range 7 {
		for mask := range 1 << n {
			var in, out []int
			for x := range n {
				if mask>>x&1 == 1 {
					in = append(in, x)
				} else {
					out = append(out, x)
				}
			}
			for some := range 1 << (n + 1) {
				held(t, stays(free(n), in...), in, some)
				held(t, goes(free(n), in...), out, some)
			}
		}
	}
}

// held holds the Image of the set of those places whose bits some has against what is at these.
func held(t *testing.T, m kind, elements []int, some int) {
	t.Helper()
	var s, want []int
	for place := range bits.Len(uint(some)) {
		if some>>place&1 == 1 {
			s = append(s, place)
		}
	}
	if bits.Len(uint(some)) > len(elements) {
		noImage(t, m, s)
		return
	}
	for _, place := range s {
		want = append(want, elements[place])
	}
	image(t, m, s, want)
}

// scattered tells a rule that scatters numbers.
func scattered() func(most int) int {
	seed := 1
	return func(most int) int {
		seed = (seed*1103515245 + 12345) % (1 << 31)
		return seed * most >> 31
	}
}

// some tells a matroid that is so deep, at most, of a few elements; it may be.
func some(next func(int) int, most int) kind {
	if most == 1 || next(5) == 0 {
		return kinds()[next(5)]
	}
	in := some(next, most-1)
	switch 5 + next(5) {
	case 5:
		return stays(in, rising(in.N)[next(in.N+1):]...)
	case 6:
		return goes(in, rising(in.N)[next(in.N+1):]...)
	case 7:
		return kind{Tag: api.Trunc, N: in.N, A: next(65), Inner: inner{in}}
	case 8:
		return wrapped(in, 1)
	}
	m := kind{Tag: api.Sum, N: in.N, Inner: inner{in}}
	for range next(8) {
		if other := some(next, most-1); m.N+other.N <= 64 {
			m.N += other.N
			m.Inner = append(m.Inner, other)
		}
	}
	return m
}

func TestSomeDeepOnes(t *testing.T) {
	next := scattered()
	for range 3000 {
		m := some(next, 1+next(6))
		if !mayBe(m) {
			t.Fatalf("%v was to be one that may be", m)
		}
		likeWords(t, m)
		at := next(40)
		changed(m, func(m kind) {
			if at--; at%40 == 0 {
				likeWords(t, m)
			}
		})
	}
}

// copied tells a matroid like another one, in memory of its own, with room behind each list.
func copied(m kind) kind {
	l, in := m.List, m.Inner
	m.List, m.Inner = make(lists, 0, len(l)+1), make(inner, 0, len(in)+1)
	for _, s := range l {
		m.List = append(m.List, append(slices.Clone(s), 7)[:len(s)])
	}
	for _, other := range in {
		m.Inner = append(m.Inner, copied(other))
	}
	return m
}

// same tells whether matroids are the same, with what stands in the room behind their lists.
func same(a, b kind) bool {
	behind := func(s, other []int) bool { return slices.Equal(s[:len(s)+1], other[:len(other)+1]) }
	return a.Tag == b.Tag && a.N == b.N && a.A == b.A && a.B == b.B && slices.EqualFunc(a.List, b.List, behind) && slices.EqualFunc(a.Inner, b.Inner, same)
}

func TestMemoryIsApart(t *testing.T) {
	for _, m := range append(kinds(), wrapped(restrict, 2), stays(contract, 0, 2), goes(restrict, 1), kind{Tag: api.Sum, N: 5, Inner: inner{restrict, contract}}, stays(graph, 4), wrapped(graph, 5)) {
		given, was := copied(m), copied(m)
		s := append(make([]int, 0, 9), 0)
		matroid.Check(given)
		matroid.Deep(given)
		first, ok := matroid.Image(given, s)
		second, _ := matroid.Image(given, s)
		if !same(given, was) || !slices.Equal(s[:9], make([]int, 9)) {
			t.Fatalf("%v was changed to %v, or %v was", was, given, s[:9])
		}
		if !ok {
			continue
		}
		want := slices.Clone(first)
		clear(given.List[0])
		s[0] = 100
		if !slices.Equal(first, want) {
			t.Fatalf("Image of %v: %v became %v", was, want, first)
		}
		first = first[:cap(first)]
		for i := range first {
			first[i] = -9
		}
		if !slices.Equal(second, want) || s[0] != 100 || slices.Contains(given.List[0], -9) {
			t.Fatalf("Image of %v: one answer changed another", was)
		}
	}
}
