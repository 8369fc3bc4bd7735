package match_test

import (
	"math/bits"
	"slices"
	"testing"

	"greenwood/match"
)

// masks tells the lists as bits.
func masks(adj lists) []int {
	l := make([]int, len(adj))
	for i, s := range adj {
		for _, r := range s {
			l[i] |= 1 << r
		}
	}
	return l
}

// greatest tells how many have one, at most, whatever those on the left have of their masks, of what isn't taken.
func greatest(l []int, taken int) int {
	if len(l) == 0 {
		return 0
	}
	best := greatest(l[1:], taken)
	for free := l[0] &^ taken; free != 0; free &= free - 1 {
		best = max(best, 1+greatest(l[1:], taken|free&-free))
	}
	return best
}

// least tells how many the least cover has: of each set on the left, all that the others may go with are in it, too.
func least(l []int) int {
	best := len(l)
	for some := range 1 << len(l) {
		with := 0
		for i, mask := range l {
			if some>>i&1 == 0 {
				with |= mask
			}
		}
		best = min(best, bits.OnesCount(uint(some))+bits.OnesCount(uint(with)))
	}
	return best
}

// byTrying holds all that is told of two sides against all the matchings and all the covers that there are.
func byTrying(t *testing.T, right int, adj lists) {
	t.Helper()
	l := masks(adj)
	many := greatest(l, 0)
	if cover := least(l); cover != many {
		t.Fatalf("of %v the greatest matching has %d, the least cover %d", adj, many, cover)
	}
	told(t, right, adj, many)
}

// of tells the set of the numbers of the bits that mask has.
func of(mask int) []int {
	var l []int
	for r := range bits.Len(uint(mask)) {
		if mask>>r&1 == 1 {
			l = append(l, r)
		}
	}
	return l
}

func TestAllSmallSides(t *testing.T) {
	for _, s := range [][2]int{{1, 1}, {1, 2}, {2, 1}, {2, 2}, {1, 5}, {5, 1}, {2, 3}, {3, 2}, {3, 3}, {2, 5}, {5, 2}, {3, 4}, {4, 3}, {2, 6}, {6, 2}} {
		left, right := s[0], s[1]
		for mask := range 1 << (left * right) {
			adj := make(lists, left)
			for i := range adj {
				adj[i] = of(mask >> (i * right) & (1<<right - 1))
			}
			byTrying(t, right, adj)
		}
	}
}

// scattered tells a rule that scatters numbers.
func scattered() func(most int) int {
	seed := 1
	return func(most int) int {
		seed = (seed*1103515245 + 12345) % (1 << 31)
		return seed * most >> 31
	}
}

// some tells sides where each two may go together if a number that is scattered, of so many, is 0.
func some(next func(int) int, left, right, rare int) lists {
	adj := make(lists, left)
	for i := range adj {
		for r := range right {
			if next(rare) == 0 {
				adj[i] = append(adj[i], r)
			}
		}
	}
	return adj
}

func TestSomeSides(t *testing.T) {
	next := scattered()
	for left := range 8 {
		for right := range 8 {
			for rare := 1; rare <= 6; rare++ {
				for range 8 {
					byTrying(t, right, some(next, left, right, rare))
				}
			}
		}
	}
}

// wider calls do with sides of up to as many as may be.
func wider(do func(right int, adj lists)) {
	next := scattered()
	for _, left := range []int{1, 2, 7, 20, 33, 63, 64} {
		for _, right := range []int{1, 2, 7, 20, 33, 63, 64} {
			for _, rare := range []int{2, 5, 12, 20, 40, 64, 120} {
				do(right, some(next, left, right, rare))
			}
		}
	}
}

func TestAsGreatAsTheCover(t *testing.T) {
	wider(func(right int, adj lists) {
		// No matching has more than a cover, as each pair has one of its own in it.
		_, many := match.Max(right, adj)
		told(t, right, adj, many)
	})
}

// turned tells the same sides with left and right the other way.
func turned(right int, adj lists) lists {
	l := make(lists, right)
	for i, s := range adj {
		for _, r := range s {
			l[r] = append(l[r], i)
		}
	}
	return l
}

func TestSidesTurned(t *testing.T) {
	wider(func(right int, adj lists) {
		_, many := match.Max(right, adj)
		told(t, len(adj), turned(right, adj), many)
		back := slices.Clone(adj)
		slices.Reverse(back)
		told(t, right, back, many)
	})
}

// planted tells sides whose greatest matching has so many: some on either side, that are so many together, may go
// with their own numbers on the other, and of each two that may go together one is of those.
func planted(next func(int) int, many int) lists {
	adj := make(lists, most)
	onLeft := next(many + 1)
	first := most - (many - onLeft)
	for i := range adj {
		for r := range most {
			if (i < onLeft || r >= first) && (i == r || next(9) == 0) {
				adj[i] = append(adj[i], r)
			}
		}
	}
	return adj
}

func TestHowManyIsKnown(t *testing.T) {
	next := scattered()
	for many := range most + 1 {
		for range 4 {
			told(t, most, planted(next, many), many)
		}
	}
}

func TestToldTheSameEachTime(t *testing.T) {
	wider(func(right int, adj lists) {
		has, many := match.Max(right, adj)
		a, b := match.Cover(right, adj)
		for range 3 {
			again, n := match.Max(right, adj)
			c, d := match.Cover(right, adj)
			if !slices.Equal(has, again) || many != n || !slices.Equal(a, c) || !slices.Equal(b, d) {
				t.Fatalf("%d, %v: %v and %v; %v, %v and %v, %v", right, adj, has, again, a, b, c, d)
			}
		}
	})
}

// clone tells the same lists, in memory of their own, with room behind each.
func clone(adj lists) lists {
	l := make(lists, 0, len(adj)+1)
	for _, s := range adj {
		l = append(l, append(make([]int, 0, len(s)+1), s...))
	}
	return l
}

// untouched tells whether lists, and the room behind them, are as clone made them.
func untouched(adj, was lists) bool {
	for _, s := range adj {
		if s[:cap(s)][len(s)] != 0 {
			return false
		}
	}
	return adj[:cap(adj)][len(adj)] == nil && slices.EqualFunc(adj, was, slices.Equal[[]int])
}

// fill writes into a list, as far as its memory goes.
func fill(l []int) {
	l = l[:cap(l)]
	for i := range l {
		l[i] = -9
	}
}

func TestMemoryIsApart(t *testing.T) {
	wider(func(right int, adj lists) {
		given := clone(adj)
		match.May(right, given)
		has, _ := match.Max(right, given)
		a, b := match.Cover(right, given)
		answers := lists{has, a, b}
		want := clone(answers)
		if !untouched(given, adj) {
			t.Fatalf("%v was changed to %v", adj, given)
		}
		for _, s := range given {
			fill(s)
		}
		if !slices.EqualFunc(answers, want, slices.Equal[[]int]) {
			t.Fatalf("of %v: the answers were changed by the argument", adj)
		}
		for i := range answers {
			fill(answers[i])
			answers[i] = want[i]
			if !slices.EqualFunc(answers, want, slices.Equal[[]int]) {
				t.Fatalf("of %v: one answer was changed by another", adj)
			}
		}
	})
}

func TestBadListsAreNotChanged(t *testing.T) {
	for _, bad := range noSets(3) {
		adj := lists{{0, 2}, bad, nil}
		given := clone(adj)
		refused(t, 3, given)
		if !untouched(given, adj) {
			t.Fatalf("%v was changed to %v", adj, given)
		}
	}
}

func TestOneListForAll(t *testing.T) {
	// The lists of several are the same memory.
	s := all(most)
	told(t, most, slices.Repeat(lists{s}, most), most)
	told(t, most, slices.Repeat(lists{s[:5]}, most), 5)
	if !slices.Equal(s, all(most)) {
		t.Errorf("%v", s)
	}
}
