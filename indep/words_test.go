package indep_test

import (
	"math/bits"
	"slices"
	"testing"

	"greenwood/api"
	"greenwood/indep"
)

// A table has of each subset of a matroid's elements, as the bits of its place, whether it is independent, word by word.
type table []bool

// masked tells the set of those numbers whose bits a mask has.
func masked(mask int) []int {
	var s []int
	for x := range bits.Len(uint(mask)) {
		if mask>>x&1 == 1 {
			s = append(s, x)
		}
	}
	return s
}

// maskOf tells the bits of a set.
func maskOf(s []int) int {
	mask := 0
	for _, x := range s {
		mask |= 1 << x
	}
	return mask
}

// most tells the largest independent sets that lie in a mask, and how large they are.
func (in table) most(mask int) ([]int, int) {
	var l []int
	many := 0
	for some := mask; ; some = (some - 1) & mask {
		if size := bits.OnesCount(uint(some)); in[some] && size >= many {
			if size > many {
				l, many = nil, size
			}
			l = append(l, some)
		}
		if some == 0 {
			return l, many
		}
	}
}

// words tells a matroid's table, by the words alone.
func words(t *testing.T, m kind) table {
	t.Helper()
	var within []table
	for _, in := range m.Inner {
		within = append(within, words(t, in))
	}
	told := make(table, 1<<m.N)
	for mask := range told {
		if m.Tag < api.Restrict {
			told[mask] = byItself(m, masked(mask))
		} else {
			told[mask] = byInner(t, m, mask, within)
		}
	}
	return told
}

// byItself tells whether a set is independent, of kinds that have none within.
func byItself(m kind, s []int) bool {
	switch m.Tag {
	case api.Uniform:
		return len(s) <= m.A
	case api.Graph:
		return noCircle(m, s)
	case api.Part:
		return !slices.ContainsFunc(rising(m.A), func(class int) bool {
			of := slices.DeleteFunc(slices.Clone(s), func(x int) bool { return m.List[0][x] != class })
			return len(of) > m.List[1][class]
		})
	case api.Trans:
		return haveOneEach(m, s, 0)
	}
	return comeToNothing(m, s, make([]int, m.A)) == 1
}

// noCircle tells whether of no edges, but of none, each vertex has an even number of ends.
func noCircle(m kind, s []int) bool {
	for some := 1; some < 1<<len(s); some++ {
		odd := 0
		for _, at := range masked(some) {
			ends := m.List[s[at]]
			odd ^= 1<<ends[0] ^ 1<<ends[1]
		}
		if odd == 0 {
			return false
		}
	}
	return true
}

// haveOneEach tries all that those on the left may go with, but those that are taken.
func haveOneEach(m kind, s []int, taken int) bool {
	if len(s) == 0 {
		return true
	}
	return slices.ContainsFunc(m.List[s[0]], func(r int) bool {
		return taken>>r&1 == 0 && haveOneEach(m, s[1:], taken|1<<r)
	})
}

// comeToNothing tells in how many ways columns, each times a number, and what is there ahead come to 0 in all rows.
func comeToNothing(m kind, s, ahead []int) int {
	if len(s) == 0 {
		if slices.ContainsFunc(ahead, func(x int) bool { return x != 0 }) {
			return 0
		}
		return 1
	}
	ways := 0
	for times := range m.B {
		with := slices.Clone(ahead)
		for row := range with {
			with[row] = (with[row] + times*m.List[s[0]][row]) % m.B
		}
		ways += comeToNothing(m, s[1:], with)
	}
	return ways
}

// byInner tells whether a set is independent, by the tables of those within.
func byInner(t *testing.T, m kind, mask int, within []table) bool {
	t.Helper()
	in, all := within[0], len(within[0])-1
	switch m.Tag {
	case api.Restrict:
		return in[places(m.List[0], mask)]
	case api.Contract:
		image := places(masked(all&^maskOf(m.List[0])), mask)
		gone, _ := in.most(maskOf(m.List[0]))
		// It does not matter which largest one is taken.
		for _, some := range gone {
			if in[image|some] != in[image|gone[0]] {
				t.Fatalf("%v is no matroid by the words", m)
			}
		}
		return in[image|gone[0]]
	case api.Trunc:
		return in[mask] && bits.OnesCount(uint(mask)) <= m.A
	case api.Dual:
		_, others := in.most(all &^ mask)
		_, largest := in.most(all)
		return others == largest
	}
	for i, of := range m.Inner {
		if !within[i][mask&(1<<of.N-1)] {
			return false
		}
		mask >>= of.N
	}
	return true
}

// places tells the bits of what is at those places of a list whose bits a mask has.
func places(l []int, mask int) int {
	to := 0
	for _, at := range masked(mask) {
		to |= 1 << l[at]
	}
	return to
}

// likeWords holds what is told of each subset of a matroid's elements against the words.
func likeWords(t *testing.T, m kind) {
	t.Helper()
	for mask, want := range words(t, m) {
		s := masked(mask)
		if got := indep.Indep(m, s); got != want {
			t.Fatalf("Indep(%v, %v): %v", m, s, got)
		}
		if !indep.May(m, s) {
			t.Fatalf("May(%v, %v): false", m, s)
		}
	}
	follows(t, m)
}

// follows holds of what is told that a part of what is independent is, that a smaller set may take of a larger one, and
// that the rank is how large all largest ones are.
func follows(t *testing.T, m kind) {
	t.Helper()
	told := make(table, 1<<m.N)
	for mask := range told {
		told[mask] = indep.Indep(m, masked(mask))
	}
	if !told[0] {
		t.Fatalf("Indep(%v, nothing): false", m)
	}
	for mask, is := range told {
		for _, x := range masked(mask) {
			if is && !told[mask&^(1<<x)] {
				t.Fatalf("%v: %v is independent, and without %d it is not", m, masked(mask), x)
			}
		}
		s := masked(mask)
		_, many := told.most(mask)
		if got := indep.Rank(m, s); got != many {
			t.Fatalf("Rank(%v, %v): %d, want %d", m, s, got, many)
		}
		for other, too := range told {
			if is && too && bits.OnesCount(uint(other)) > len(s) && !grows(told, mask, other) {
				t.Fatalf("%v: none of %v may be added to %v", m, masked(other), s)
			}
		}
	}
}

// grows tells whether one of another set may be added to a set.
func grows(told table, mask, other int) bool {
	return slices.ContainsFunc(masked(other&^mask), func(x int) bool { return told[mask|1<<x] })
}

// around calls do with a matroid, and with each that is made of it alone in one step; and of it with a few others.
func around(m kind, do func(kind)) {
	do(m)
	for mask := range 1 << m.N {
		do(stays(m, masked(mask)...))
		do(goes(m, masked(mask)...))
	}
	for a := range m.N + 2 {
		do(most(a, m))
	}
	do(dualOf(m))
	do(dualOf(dualOf(m)))
	do(sumOf(m))
	do(sumOf(kind{N: 2, A: 1}, m))
	do(sumOf(m, free(0), kind{N: 1}, free(1)))
}

// counted calls do with each list of so many numbers from 0 to below less 1. That list is changed afterwards.
func counted(many, below int, do func([]int)) {
	l := make([]int, many)
	for {
		do(l)
		at := 0
		for ; at < many && l[at] == below-1; at++ {
			l[at] = 0
		}
		if at == many {
			return
		}
		l[at]++
	}
}

// mostly tells a closure that passes by all matroids but one of so many.
func mostly(step int, do func(kind)) func(kind) {
	count := 0
	return func(m kind) {
		if count++; count%step == 0 {
			do(m)
		}
	}
}

func TestAllUniform(t *testing.T) {
	for n := range 6 {
		for a := range n + 1 {
			around(kind{N: n, A: a}, func(m kind) { likeWords(t, m) })
		}
	}
}

func TestAllSmallGraphs(t *testing.T) {
	do := func(m kind) { likeWords(t, m) }
	for n := range 4 {
		counted(2*n, 3, func(l []int) {
			m := edges(3)
			for i := range n {
				m.List = append(m.List, []int{l[2*i], l[2*i+1]})
			}
			m.N = n
			around(m, do)
		})
	}
	// All edges of four vertices, and one of one vertex alone.
	likeWords(t, edges(4, []int{0, 1}, []int{0, 2}, []int{0, 3}, []int{1, 2}, []int{1, 3}, []int{2, 3}, []int{2, 2}))
	around(edges(4, []int{0, 1}, []int{0, 2}, []int{3, 0}, []int{1, 2}, []int{1, 3}, []int{3, 2}), func(m kind) { likeWords(t, m) })
}

func TestAllSmallParts(t *testing.T) {
	do := func(m kind) { likeWords(t, m) }
	for n := range 5 {
		counted(n, 2, func(class []int) {
			counted(2, 4, func(most []int) { around(classes(slices.Clone(class), most...), do) })
		})
	}
}

func TestAllSmallSides(t *testing.T) {
	do := func(m kind) { likeWords(t, m) }
	for n := range 4 {
		counted(n, 8, func(l []int) {
			m := sides(3)
			for _, mask := range l {
				m.List = append(m.List, masked(mask))
			}
			m.N = n
			around(m, do)
		})
	}
}

func TestAllSmallColumns(t *testing.T) {
	for _, c := range [...]struct{ p, rows, many, step int }{{2, 1, 4, 1}, {2, 2, 4, 1}, {2, 3, 3, 3}, {3, 2, 3, 5}, {5, 1, 3, 1}, {5, 2, 2, 3}, {7, 2, 2, 11}} {
		do := mostly(c.step, func(m kind) { likeWords(t, m) })
		counted(c.rows*c.many, c.p, func(l []int) {
			m := columns(c.p, c.rows)
			for i := range c.many {
				m.List = append(m.List, slices.Clone(l[c.rows*i:c.rows*(i+1)]))
			}
			m.N = c.many
			around(m, do)
		})
	}
}

// depth tells how deep a matroid is.
func depth(m kind) int {
	within := 0
	for _, in := range m.Inner {
		within = max(within, depth(in))
	}
	return 1 + within
}

func TestEachKindAroundEach(t *testing.T) {
	do := mostly(97, func(m kind) {
		if depth(m) > api.MaxDeep {
			mayNot(t, m, nil)
			return
		}
		likeWords(t, m)
	})
	for _, m := range kinds()[:api.Sum] {
		around(m, func(m kind) {
			likeWords(t, m)
			if m.N < 6 {
				around(m, do)
			}
		})
	}
}

// scattered tells a rule that scatters numbers.
func scattered() func(most int) int {
	seed := 1
	return func(most int) int {
		seed = (seed*1103515245 + 12345) % (1 << 31)
		return seed * most >> 31
	}
}

// some tells a matroid of n elements that is so deep.
func some(next func(int) int, n, deep int) kind {
	if deep == 1 {
		return someLeaf(next, n)
	}
	switch api.Restrict + next(5) {
	case api.Restrict:
		more := next(3)
		return stays(some(next, n+more, deep-1), scatter(next, n+more, n)...)
	case api.Contract:
		more := next(3)
		return goes(some(next, n+more, deep-1), scatter(next, n+more, more)...)
	case api.Trunc:
		return most(next(n+2), some(next, n, deep-1))
	case api.Dual:
		return dualOf(some(next, n, deep-1))
	}
	l := inner{}
	for left, many := n, 1+next(3); many > 0; many-- {
		has := left
		if many > 1 {
			has = next(left + 1)
		}
		l = append(l, some(next, has, max(1, deep-1-next(2)*len(l))))
		left -= has
	}
	return sumOf(l...)
}

// someLeaf tells a matroid of n elements that has none within.
func someLeaf(next func(int) int, n int) kind {
	draw := func(many, below int) []int {
		l := make([]int, many)
		for i := range l {
			l[i] = next(below)
		}
		return l
	}
	var l lists
	switch next(5) {
	case api.Uniform:
		return kind{N: n, A: next(n + 1)}
	case api.Graph:
		for range n {
			l = append(l, draw(2, 4))
		}
		return edges(4, l...)
	case api.Part:
		return classes(draw(n, 3), draw(3, 4)...)
	case api.Trans:
		for range n {
			l = append(l, masked(next(16)&next(16)))
		}
		return sides(4, l...)
	}
	p := 2 + next(2)
	for range n {
		l = append(l, draw(3, p))
	}
	return columns(p, 3, l...)
}

// scatter tells a set of so many of n elements.
func scatter(next func(int) int, n, many int) []int {
	l := rising(n)
	for len(l) > many {
		at := next(len(l))
		l = slices.Delete(l, at, at+1)
	}
	return l
}

func TestSomeDeepOnes(t *testing.T) {
	next := scattered()
	for range 2000 {
		for deep := 1; deep <= 4; deep++ {
			likeWords(t, some(next, next(6), deep))
		}
	}
}
