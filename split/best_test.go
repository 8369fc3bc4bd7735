package split_test

import (
	"math"
	"slices"
	"testing"

	"greenwood/greedy"
	"greenwood/split"
)

// sets tells splits of these sets alone.
func sets(l ...[]int) []parts {
	var s []parts
	for _, x := range l {
		s = append(s, one(x, nil, nil))
	}
	return s
}

// best holds the place of the heaviest one against what is wanted.
func best(t *testing.T, l []parts, w []int, want int) {
	t.Helper()
	if got := split.Best(l, w); got != want {
		t.Errorf("Best(%v, %v): %d, want %d", l, w, got, want)
	}
}

func TestBestOfNone(t *testing.T) {
	for _, w := range [][]int{nil, {}, {0}, {1, 2}, {-1}} {
		best(t, nil, w, -1)
		best(t, []parts{}, w, -1)
		best(t, sets(nil), w, 0)
		best(t, sets([]int{}), w, 0)
		best(t, sets(nil, []int{}, nil), w, 0)
	}
}

func TestBestOfSeveral(t *testing.T) {
	w := []int{3, -5, 2, 3, 0, 1}
	best(t, sets([]int{0}, []int{3}, []int{2, 5}), w, 0)
	best(t, sets(nil, []int{2, 5}, []int{0}, []int{3}), w, 1)
	best(t, sets([]int{2}, []int{0, 1, 2}, []int{3}, []int{0, 4}), w, 2)
	best(t, sets(nil, []int{4}, []int{1, 2, 3}), w, 0)
	best(t, sets([]int{1}, []int{4}, nil), w, 1)
	// All below 0.
	best(t, sets([]int{1}, []int{1, 2}, []int{1, 4}), w, 1)
	best(t, sets([]int{1}, []int{1, 4}), w, 0)
	// In each place once; and all the same but for one that is lighter.
	for at := range 9 {
		l := slices.Repeat(sets([]int{2, 4}), 9)
		l[at].S = []int{0}
		best(t, l, w, at)
		l[at].S = []int{5}
		if at == 0 {
			best(t, l, w, 1)
		} else {
			best(t, l, w, 0)
		}
	}
}

func TestBestSize(t *testing.T) {
	// The heaviest one is of none, of one, of all, or in between.
	m := free(4)
	for _, c := range []struct {
		w    []int
		want int
	}{
		{[]int{-1, -2, -3, -4}, 0}, {[]int{0, 0, 0, 0}, 0}, {[]int{0, -1, 0, -1}, 0}, {[]int{-1, 2, -3, 0}, 1}, {[]int{5, -1, 5, 0}, 2}, {[]int{1, 2, 3, -9}, 3}, {[]int{1, 2, 3, 4}, 4},
		{[]int{1 << 31, -1 << 31, 1 << 31, -1 << 31}, 2},
	} {
		best(t, proved(t, m, m, c.w), c.w, c.want)
	}
	left, right := pairs([2]int{0, 0}, [2]int{1, 0}, [2]int{0, 1})
	for _, c := range []struct {
		first, want int
	}{{6, 2}, {7, 1}, {8, 1}} {
		w := []int{c.first, 4, 3}
		best(t, proved(t, left, right, w), w, c.want)
	}
}

func TestBestOfEachTag(t *testing.T) {
	for _, a := range ofEachTag() {
		for _, b := range ofEachTag() {
			common := both(tableOf(a), tableOf(b))
			for _, w := range weightsOfSix() {
				l, _ := split.All(a, b, w)
				most := 0
				for bit := range common {
					if common[bit] {
						most = max(most, together(w, bit))
					}
				}
				at := split.Best(l, w)
				if greedy.Weight(w, l[at].S) != most {
					t.Errorf("%v, %v, %v: %v is told, and there are common sets of %d", a, b, w, l[at].S, most)
				}
				best(t, l[:at+1], w, at)
				for _, s := range l[:at] {
					if greedy.Weight(w, s.S) >= most {
						t.Errorf("%v, %v, %v: %v is as heavy, and ahead of %v", a, b, w, s.S, l[at].S)
					}
				}
			}
		}
	}
}

func TestBestOfOthers(t *testing.T) {
	// What is no set of places of the weights weighs nothing.
	w := []int{-3, 4, -1}
	for _, none := range [][]int{{1, 0}, {1, 1}, {3}, {1, 3}, {-1}, {-1, 1}, {1, math.MaxInt}, {math.MinInt}, {2, 1, 0}} {
		best(t, sets(none, []int{0}, []int{2}), w, 0)
		best(t, sets([]int{0}, none, []int{2}), w, 1)
		best(t, sets([]int{0}, none, []int{0, 1}), w, 2)
		best(t, sets(none, nil), w, 0)
		best(t, sets(nil, none), w, 0)
		best(t, sets(none), nil, 0)
		best(t, sets(none, []int{0}), []int{}, 0)
	}
	// There may be weights that All refuses, and more than a matroid has elements.
	best(t, sets([]int{0}, []int{1}), []int{-1 << 50, 1 << 50}, 1)
	best(t, sets([]int{0}, []int{99999}), rising(100000), 1)
	best(t, sets([]int{0}, []int{100000}), rising(100000), 0)
	// A and B count for nothing.
	best(t, []parts{one([]int{0}, []int{9, 9}, []int{9, 9}), one([]int{1}, nil, nil)}, []int{1, 2}, 1)
}

// rising tells so many weights, each one more than the one ahead.
func rising(many int) []int {
	w := make([]int, many)
	for x := range w {
		w[x] = x
	}
	return w
}
