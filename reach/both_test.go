package reach_test

import (
	"math/bits"
	"slices"
	"testing"

	"greenwood/reach"
)

// of tells the set of the numbers of the bits that mask has.
func of(mask int) []int {
	var l []int
	for p := range bits.Len(uint(mask)) {
		if mask>>p&1 == 1 {
			l = append(l, p)
		}
	}
	return l
}

// digraph tells the one of n points whose arcs are bits, n for each point.
func digraph(n, arcs int) lists {
	adj := make(lists, n)
	for i := range adj {
		adj[i] = of(arcs >> (i * n) & (1<<n - 1))
	}
	return adj
}

// closed tells whether a set, as bits, has those that one comes to from some, and no arc leads out of it.
func closed(adj lists, from []int, set int) bool {
	for _, p := range from {
		if set>>p&1 == 0 {
			return false
		}
	}
	for _, p := range of(set) {
		for _, q := range adj[p] {
			if set>>q&1 == 0 {
				return false
			}
		}
	}
	return true
}

// leastClosed tells what is in all sets that no arc leads out of, and that have some points.
func leastClosed(adj lists, from []int) []int {
	within := 1<<len(adj) - 1
	for set := range 1 << len(adj) {
		if closed(adj, from, set) {
			within &= set
		}
	}
	return of(within)
}

// firstRow tells the least row of so many points, behind those that there are, that is a way and ends at one of to.
func firstRow(adj lists, from, to, ahead []int, many int) []int {
	if many == 0 {
		if slices.Contains(to, ahead[len(ahead)-1]) {
			return ahead
		}
		return nil
	}
	for p := range adj {
		if len(ahead) == 0 && !slices.Contains(from, p) || len(ahead) > 0 && !slices.Contains(adj[ahead[len(ahead)-1]], p) {
			continue
		}
		if l := firstRow(adj, from, to, append(ahead, p), many-1); l != nil {
			return l
		}
	}
	return nil
}

// byTrying holds what is told against all sets, and against all rows of points, the shortest first.
func byTrying(t *testing.T, adj lists, from, to []int) {
	t.Helper()
	comes(t, adj, from, leastClosed(adj, from))
	for many := 1; many <= len(adj); many++ {
		if want := firstRow(adj, from, to, nil, many); want != nil {
			told(t, adj, from, to, want)
			return
		}
	}
	noWay(t, adj, from, to)
}

func TestAllSmallDigraphs(t *testing.T) {
	for n := range 4 {
		for arcs := range 1 << (n * n) {
			adj := digraph(n, arcs)
			for sets := range 1 << (2 * n) {
				byTrying(t, adj, of(sets>>n), of(sets&(1<<n-1)))
			}
		}
	}
}

func TestAllDigraphsOfFour(t *testing.T) {
	next := scattered()
	for arcs := range 1 << 16 {
		adj := digraph(4, arcs)
		for range 4 {
			byTrying(t, adj, of(next(16)), of(next(16)))
		}
	}
}

// scattered tells a rule that scatters numbers.
func scattered() func(most int) int {
	seed := 1
	return func(most int) int {
		seed = (seed*1103515245 + 12345) % (1 << 31)
		return seed * most >> 31
	}
}

// few tells a set of points, each of which is in it if a number that is scattered, of so many, is 0.
func few(next func(int) int, n, rare int) []int {
	var l []int
	for p := range n {
		if next(rare) == 0 {
			l = append(l, p)
		}
	}
	return l
}

// some tells a digraph of n points whose arcs are so rare.
func some(next func(int) int, n, rare int) lists {
	adj := make(lists, n)
	for i := range adj {
		adj[i] = few(next, n, rare)
	}
	return adj
}

func TestSomeDigraphs(t *testing.T) {
	next := scattered()
	for n := 5; n <= 8; n++ {
		for rare := 1; rare <= 8; rare++ {
			for range 40 {
				byTrying(t, some(next, n, rare), few(next, n, 4), few(next, n, 4))
			}
		}
	}
}

// wider calls do with digraphs of more points.
func wider(do func(adj lists, from, to []int)) {
	next := scattered()
	for _, n := range []int{1, 2, 9, 33, 64, 150, 400} {
		for _, rare := range []int{2, 5, n/4 + 1, n/2 + 1, n + 1, 2*n + 1} {
			adj := some(next, n, rare)
			for _, ends := range []int{2, 8, n/2 + 1, n + 1} {
				do(adj, few(next, n, ends), few(next, n, ends))
			}
			do(adj, []int{next(n)}, []int{next(n)})
		}
	}
}

// far tells how many arcs there are from each point to one of to, at least; -1, if there is no way.
// What is so far is looked for from the end, round by round.
func far(adj lists, to []int) []int {
	l := slices.Repeat([]int{-1}, len(adj))
	for _, p := range to {
		l[p] = 0
	}
	for round, more := 1, true; more; round++ {
		more = false
		for p := range adj {
			if l[p] == -1 && slices.ContainsFunc(adj[p], func(q int) bool { return l[q] == round-1 }) {
				l[p] = round
				more = true
			}
		}
	}
	return l
}

// leastBy tells the least way, going from the least of the nearest points always to the least one that is nearer.
func leastBy(adj lists, from, to []int) []int {
	left := far(adj, to)
	nearest := -1
	for _, p := range from {
		if left[p] != -1 && (nearest == -1 || left[p] < nearest) {
			nearest = left[p]
		}
	}
	var way []int
	among := from
	for ; nearest >= 0; nearest-- {
		at := slices.IndexFunc(among, func(p int) bool { return left[p] == nearest })
		way = append(way, among[at])
		among = adj[among[at]]
	}
	return way
}

func TestAsFromTheEnd(t *testing.T) {
	wider(func(adj lists, from, to []int) {
		if want := leastBy(adj, from, to); want != nil {
			told(t, adj, from, to, want)
		} else {
			noWay(t, adj, from, to)
		}
	})
}

func TestNoArcLeadsOut(t *testing.T) {
	wider(func(adj lists, from, _ []int) {
		got := reach.From(adj, from)
		for _, p := range from {
			if !slices.Contains(got, p) {
				t.Fatalf("From(%v .., %v): %v has not %d", short(adj), from, got, p)
			}
		}
		for _, p := range got {
			for _, q := range adj[p] {
				if !slices.Contains(got, q) {
					t.Fatalf("From(%v .., %v): %v, and an arc leads to %d", short(adj), from, got, q)
				}
			}
		}
	})
}

func TestFromHasWhatThereIsAWayTo(t *testing.T) {
	wider(func(adj lists, from, _ []int) {
		if len(adj) > 64 {
			return
		}
		got := reach.From(adj, from)
		for p := range adj {
			if _, ok := reach.Path(adj, from, []int{p}); ok != slices.Contains(got, p) {
				t.Fatalf("%v .., %v: From tells %v, Path to %d %t", short(adj), from, got, p, ok)
			}
		}
	})
}

func TestGreatestDigraphs(t *testing.T) {
	next := scattered()
	for _, arcs := range []int{1, 2, 3, 20} {
		adj := make(lists, most)
		for i := range adj {
			for range arcs {
				adj[i] = append(adj[i], next(most))
			}
			slices.Sort(adj[i])
			adj[i] = slices.Compact(adj[i])
		}
		for range 4 {
			from, to := few(next, most, 1000), few(next, most, 1000)
			if want := leastBy(adj, from, to); want != nil {
				told(t, adj, from, to, want)
			} else {
				noWay(t, adj, from, to)
			}
		}
	}
}

func TestToldTheSameEachTime(t *testing.T) {
	wider(func(adj lists, from, to []int) {
		set := reach.From(adj, from)
		way, is := reach.Path(adj, from, to)
		for range 2 {
			p, ok := reach.Path(adj, from, to)
			if !slices.Equal(set, reach.From(adj, from)) || !slices.Equal(way, p) || is != ok {
				t.Fatalf("%v .., %v, %v: %v, %t and %v, %t", short(adj), from, to, way, is, p, ok)
			}
		}
	})
}

// clone tells the same lists, in memory of their own, with room behind each.
func clone(adj lists) lists {
	l := make(lists, 0, len(adj)+1)
	for _, s := range adj {
		l = append(l, append(make([]int, 0, len(s)+1), s...))
	}
	return l
}

// untouched tells whether lists, and the room behind them, are as clone made them.
func untouched(adj, was lists) bool {
	for _, s := range adj {
		if s[:cap(s)][len(s)] != 0 {
			return false
		}
	}
	return adj[:cap(adj)][len(adj)] == nil && slices.EqualFunc(adj, was, slices.Equal[[]int])
}

// fill writes into a list, as far as its memory goes.
func fill(l []int) {
	l = l[:cap(l)]
	for i := range l {
		l[i] = -9
	}
}

func TestMemoryIsApart(t *testing.T) {
	wider(func(adj lists, from, to []int) {
		was := append(slices.Clone(adj), from, to)
		given := clone(was)
		n := len(adj)
		reach.May(given[:n:n])
		way, _ := reach.Path(given[:n:n], given[n], given[n+1])
		answers := lists{reach.From(given[:n:n], given[n]), way}
		want := clone(answers)
		if !untouched(given, was) {
			t.Fatalf("%v .. was changed to %v", short(was), short(given))
		}
		for _, s := range given {
			fill(s)
		}
		if !slices.EqualFunc(answers, want, slices.Equal[[]int]) {
			t.Fatalf("of %v ..: the answers were changed by the argument", short(adj))
		}
		for i := range answers {
			fill(answers[i])
			answers[i] = want[i]
			if !slices.EqualFunc(answers, want, slices.Equal[[]int]) {
				t.Fatalf("of %v ..: one answer was changed by another", short(adj))
			}
		}
	})
}

func TestBadListsAreNotChanged(t *testing.T) {
	for _, bad := range noSets(3) {
		was := lists{{0, 2}, bad, nil}
		given := clone(was)
		noDigraph(t, given)
		if !untouched(given, was) {
			t.Fatalf("%v was changed to %v", was, given)
		}
		ends := clone(lists{bad})
		refused(t, circle(3), ends[0], ends[0])
		comes(t, circle(3), ends[0], nil)
		if !untouched(ends, lists{bad}) {
			t.Fatalf("%v was changed to %v", bad, ends[0])
		}
	}
}

func TestOneListForAll(t *testing.T) {
	// Arcs, from and to are the same memory.
	s := []int{1, 3, 4}
	told(t, slices.Repeat(lists{s}, 5), s, s, []int{1})
	comes(t, slices.Repeat(lists{s}, 5), s, []int{1, 3, 4})
	comes(t, slices.Repeat(lists{s}, 5), s[:1], []int{1, 3, 4})
	if !slices.Equal(s, []int{1, 3, 4}) {
		t.Errorf("%v", s)
	}
}
