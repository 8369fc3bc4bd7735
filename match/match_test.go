package match_test

import (
	"math"
	"slices"
	"testing"

	"greenwood/api"
	"greenwood/match"
)

// most is how many there are on either side, at most.
const most = 64

// top is the greatest number that may be in a set.
const top = 1 << 40

type lists = [][]int

// told holds what is told of two sides that may be against how many have one.
func told(t *testing.T, right int, adj lists, many int) {
	t.Helper()
	if !match.May(right, adj) {
		t.Errorf("May(%d, %v): false", right, adj)
	}
	matching(t, right, adj, many)
	cover(t, right, adj, many)
}

// matching holds a matching against what it stands for.
func matching(t *testing.T, right int, adj lists, many int) {
	t.Helper()
	has, got := match.Max(right, adj)
	if got != many || len(has) != len(adj) {
		t.Errorf("Max(%d, %v): %v, %d, want %d", right, adj, has, got, many)
		return
	}
	var taken []int
	for i, r := range has {
		if r == -1 {
			continue
		}
		if !slices.Contains(adj[i], r) || slices.Contains(taken, r) {
			t.Errorf("Max(%d, %v): %v, where %d has %d", right, adj, has, i, r)
		}
		taken = append(taken, r)
	}
	if len(taken) != many {
		t.Errorf("Max(%d, %v): %v, where %d have one, want %d", right, adj, has, len(taken), many)
	}
}

// cover holds a cover against what it stands for.
func cover(t *testing.T, right int, adj lists, many int) {
	t.Helper()
	a, b := match.Cover(right, adj)
	if len(a)+len(b) != many {
		t.Errorf("Cover(%d, %v): %v, %v, want %d", right, adj, a, b, many)
	}
	if !setBelow(len(adj), a) || !setBelow(right, b) {
		t.Errorf("Cover(%d, %v): %v, %v are no sets of them", right, adj, a, b)
	}
	for i, s := range adj {
		for _, r := range s {
			if !slices.Contains(a, i) && !slices.Contains(b, r) {
				t.Errorf("Cover(%d, %v): %v, %v, where neither %d nor %d is", right, adj, a, b, i, r)
			}
		}
	}
}

// setBelow tells whether a list is a set of numbers less than n.
func setBelow(n int, l []int) bool {
	for i, x := range l {
		if x < 0 || x >= n || i > 0 && l[i-1] >= x {
			return false
		}
	}
	return true
}

// refused asks each call of two sides that may not be.
func refused(t *testing.T, right int, adj lists) {
	t.Helper()
	name := adj[:min(len(adj), 4)]
	if match.May(right, adj) {
		t.Errorf("May(%d, %v ..): true", right, name)
	}
	if has, many := match.Max(right, adj); len(has) != 0 || many != 0 {
		t.Errorf("Max(%d, %v ..): %v, %d", right, name, has, many)
	}
	if a, b := match.Cover(right, adj); len(a) != 0 || len(b) != 0 {
		t.Errorf("Cover(%d, %v ..): %v, %v", right, name, a, b)
	}
}

// all tells 0 to n - 1.
func all(n int) []int {
	l := make([]int, n)
	for i := range l {
		l[i] = i
	}
	return l
}

func TestSides(t *testing.T) {
	cases := []struct {
		right int
		adj   lists
		many  int
	}{
		{2, lists{{0}, {0}, {0, 1}}, 2},
		{1, lists{{0}}, 1},
		{2, lists{{0}, {1}}, 2},
		{2, lists{{1}, {0}}, 2},
		// Several may go with one alone.
		{1, lists{{0}, {0}, {0}}, 1},
		{3, lists{{1}, {1}, {1}}, 1},
		{5, lists{{4}, {4}, {4}, {4}, {4}, {0}}, 2},
		{4, lists{{0, 1}, {0, 1}, {0, 1}, {2, 3}}, 3},
		{3, lists{{0, 1, 2}, {1}, {1}, {1, 2}}, 3},
		// One may go with several, and has one.
		{4, lists{{0, 1, 2, 3}}, 1},
		{4, lists{{0, 1, 2, 3}, nil, nil}, 1},
		// There are more on the one side, or on the other.
		{2, lists{{0, 1}, {0, 1}, {0, 1}, {0, 1}}, 2},
		{5, lists{{0, 1, 2, 3, 4}, {0, 1, 2, 3, 4}}, 2},
		// Those that may go with nobody stand between.
		{3, lists{nil, {2}, {}, {2}, nil}, 1},
		{6, lists{{5}, nil, {1, 5}, {}, {1}}, 2},
		// No side has all, and the cover has some of both.
		{5, lists{{0}, {0}, {0, 1, 2, 3}, {0}}, 2},
		{4, lists{{0, 1}, {1}, {1}, {0, 1, 2, 3}}, 3},
		{6, lists{{0}, {0}, {0, 1}, {1}, {2, 3, 4, 5}, {3}, {3}}, 4},
	}
	for _, c := range cases {
		told(t, c.right, c.adj, c.many)
	}
}

func TestOthersChange(t *testing.T) {
	cases := []struct {
		right int
		adj   lists
		many  int
	}{
		{2, lists{{0, 1}, {0}}, 2},
		{2, lists{{0, 1}, {1}}, 2},
		{2, lists{{0}, {0, 1}}, 2},
		{3, lists{{0, 1}, {0, 2}, {0}}, 3},
		{3, lists{{0, 1}, {1, 2}, {0}}, 3},
		{3, lists{{0, 1, 2}, {0, 1}, {0}}, 3},
		{3, lists{{1, 2}, {0, 1}, {1}}, 3},
		{4, lists{{0, 1}, {1, 2}, {2, 3}, {0}}, 4},
		{5, lists{{0}, {0, 1}, {1, 2}, {2, 3}, {3, 4}}, 5},
		{5, lists{{3, 4}, {2, 3}, {1, 2}, {0, 1}, {0}}, 5},
		// The first one on the way can't change, the next one can.
		{4, lists{{0}, {1, 3}, {0, 1, 2}, {0, 1, 2}}, 4},
		{4, lists{{0}, {1}, {2, 3}, {0, 1, 2}}, 4},
		// Whoever changes, one is left.
		{3, lists{{0, 1}, {1, 2}, {0, 2}, {0, 1, 2}}, 3},
		{4, lists{{0, 1}, {0, 1}, {0, 1, 2, 3}, {0}}, 3},
	}
	for _, c := range cases {
		told(t, c.right, c.adj, c.many)
	}
}

// chain tells sides where each new one makes all those ahead of it change whom they have.
func chain(n int) lists {
	adj := make(lists, n)
	for i := range adj {
		adj[i] = []int{i, i + 1}
	}
	adj[n-1] = []int{0}
	return adj
}

func TestAllChange(t *testing.T) {
	for n := 1; n <= most; n++ {
		adj := chain(n)
		told(t, n, adj, n)
		if has, _ := match.Max(n, adj); has[n-1] != 0 {
			t.Errorf("the last one of %v: %v", adj, has)
		}
		if n < most {
			told(t, n, append(chain(n), []int{n - 1}), n)
		}
	}
}

func TestNobodyOnTheLeft(t *testing.T) {
	for right := range most + 1 {
		told(t, right, nil, 0)
		told(t, right, lists{}, 0)
	}
}

func TestNobodyOnTheRight(t *testing.T) {
	for many := range most + 1 {
		adj := make(lists, many)
		told(t, 0, adj, 0)
		for i := range adj {
			adj[i] = []int{}
		}
		told(t, 0, adj, 0)
	}
	refused(t, 0, lists{{0}})
	refused(t, 0, lists{nil, nil, {0}})
	refused(t, 0, lists{{0}, nil, nil})
	refused(t, 0, lists{nil, {1}})
	refused(t, 0, lists{{-1}})
}

func TestAllWithAllAndNoneWithAny(t *testing.T) {
	for _, right := range []int{0, 1, 2, 3, 63, 64} {
		for _, left := range []int{0, 1, 2, 3, 63, 64} {
			told(t, right, slices.Repeat(lists{all(right)}, left), min(left, right))
			told(t, right, make(lists, left), 0)
			told(t, right, slices.Repeat(lists{{}}, left), 0)
			if right > 0 {
				told(t, right, slices.Repeat(lists{{right - 1}}, left), min(left, 1))
			}
		}
	}
}

func TestOneHasAllTheRight(t *testing.T) {
	for right := 1; right <= most; right++ {
		for _, at := range []int{0, 1, 31, 63} {
			adj := make(lists, most)
			adj[at] = all(right)
			told(t, right, adj, 1)
			adj[(at+1)%most] = []int{0}
			adj[(at+2)%most] = []int{right - 1}
			told(t, right, adj, min(right, 3))
		}
	}
}

func TestLimits(t *testing.T) {
	if api.MaxN != most {
		t.Fatalf("MaxN: %d", api.MaxN)
	}
	for _, right := range []int{-1, -2, -64, -65, math.MinInt, math.MinInt + 1, most + 1, most + 2, 100, 128, 1 << 32, top, top + 1, math.MaxInt} {
		for _, adj := range []lists{nil, {}, {nil}, {{}}, {{0}}, {{0}, {0}, {0, 1}}, make(lists, most), make(lists, most+1), {{right - 1}}, {{right}}, {{0, 64}}, {{-1}}} {
			refused(t, right, adj)
		}
	}
	for _, many := range []int{most + 1, most + 2, 128, 1000, 1 << 16} {
		for _, right := range []int{0, 1, 2, most} {
			refused(t, right, make(lists, many))
			refused(t, right, slices.Repeat(lists{all(right)}, many))
			refused(t, right, append(make(lists, many-1), all(right)))
		}
	}
	told(t, most, slices.Repeat(lists{{most - 1}}, most), 1)
	refused(t, most-1, slices.Repeat(lists{{most - 1}}, most))
	told(t, 1, lists{{0}}, 1)
	refused(t, 0, lists{{0}})
}

// noSets are lists that are no sets of numbers that are less than right.
func noSets(right int) lists {
	l := lists{
		{-1}, {-1, 0}, {-2, -1}, {math.MinInt}, {math.MinInt, 0}, {0, -1}, {0, math.MinInt},
		{right}, {right + 1}, {0, right}, {0, right + 1}, {right, right + 1}, {right, 0}, {0, right, 0},
		{top}, {top + 1}, {0, top}, {0, top + 1}, {math.MaxInt}, {0, math.MaxInt}, {1 << 32},
		{0, 0}, {right - 1, right - 1}, {0, 0, right - 1}, {0, right - 1, right - 1},
		append(all(right), right), append(all(right), 0), append(all(right), right-1), append([]int{0}, all(right)...),
		append([]int{-1}, all(right)...), all(right + 1), all(65), all(100000),
		slices.Repeat([]int{0}, 64), slices.Repeat([]int{0}, 100000),
	}
	if right > 1 {
		turned := all(right)
		slices.Reverse(turned)
		l = append(l, []int{1, 0}, []int{right - 1, 0}, turned)
	}
	if right > 2 {
		l = append(l, []int{0, 2, 1}, []int{1, 0, 2}, []int{2, 1, 0}, []int{0, 2, 2}, []int{0, 1, 0}, []int{1, 2, 0})
	}
	return l
}

func TestListsThatAreNone(t *testing.T) {
	for _, right := range []int{1, 2, 3, 5, 63, 64} {
		for _, bad := range noSets(right) {
			for _, many := range []int{1, 2, 3, most} {
				for _, at := range []int{0, many / 2, many - 1} {
					for _, good := range [][]int{nil, {0}, {right - 1}, all(right)} {
						adj := slices.Repeat(lists{good}, many)
						adj[at] = bad
						refused(t, right, adj)
					}
				}
			}
		}
	}
}

func TestEachNumberFitsOrNot(t *testing.T) {
	for right := range most + 1 {
		for x := -3; x < most+3; x++ {
			if x >= 0 && x < right {
				told(t, right, lists{nil, {x}, {x}}, 1)
			} else {
				refused(t, right, lists{nil, {x}, {x}})
			}
		}
	}
}

func TestExample(t *testing.T) {
	adj := lists{{0}, {0}, {0, 1}}
	if has, many := match.Max(2, adj); many != 2 || has[2] != 1 || has[0]+has[1] != -1 {
		t.Errorf("Max(2, %v): %v, %d", adj, has, many)
	}
	a, b := match.Cover(2, adj)
	// Two covers are least: 0 on the right, and with it 2 on the left, or 1 on the right.
	if !slices.Contains(b, 0) || len(a)+len(b) != 2 || slices.Contains(a, 2) == slices.Contains(b, 1) {
		t.Errorf("Cover(2, %v): %v, %v", adj, a, b)
	}
}
