package swap_test

import (
	"math"
	"slices"
	"testing"

	"greenwood/set"
	"greenwood/swap"
)

// greatest is what the greatest number in a set is.
const greatest = 1 << 40

// turns holds what a set becomes along a path.
func turns(t *testing.T, s, path []int, want ...int) {
	t.Helper()
	if got := swap.Turn(s, path); !slices.Equal(got, want) {
		t.Errorf("Turn(%v, %v): %v, want %v", s, path, got, want)
	}
}

func TestTurn(t *testing.T) {
	turns(t, []int{0, 2}, []int{3, 2, 1}, 0, 1, 3)
	turns(t, []int{1}, []int{0, 1, 2}, 0, 2)
	turns(t, []int{1, 5, 9}, []int{4}, 1, 4, 5, 9)
	turns(t, []int{1, 5, 9}, []int{5}, 1, 9)
	turns(t, []int{1, 5, 9}, []int{0, 10}, 0, 1, 5, 9, 10)
	turns(t, []int{1, 5, 9}, []int{9, 0, 1}, 0, 5)
	turns(t, []int{0, greatest}, []int{greatest - 1, 0}, greatest-1, greatest)
	turns(t, []int{greatest}, []int{greatest})
	turns(t, []int{0}, []int{greatest}, 0, greatest)
}

func TestTurnOfNothing(t *testing.T) {
	for _, none := range [][]int{nil, {}} {
		turns(t, none, nil)
		turns(t, none, []int{})
		turns(t, none, []int{4}, 4)
		turns(t, none, []int{7, 0, 3}, 0, 3, 7)
		turns(t, []int{4}, none, 4)
		turns(t, []int{0, 3, 7}, none, 0, 3, 7)
	}
}

func TestTurnAlongItself(t *testing.T) {
	for n := range 70 {
		s := set.All(n)
		turns(t, s, s)
		back := slices.Clone(s)
		slices.Reverse(back)
		turns(t, s, back)
	}
}

func TestTurnOfNoSet(t *testing.T) {
	for _, s := range [][]int{{1, 0}, {0, 0}, {0, 1, 1}, {0, 2, 1}, {-1}, {-1, 0}, {math.MinInt, 3}, {greatest + 1}, {0, greatest + 1}, {math.MaxInt}} {
		for _, path := range [][]int{nil, {}, {0}, {1}, {5}, {2, 1, 0}, {0, 1, 2}, s} {
			turns(t, s, path)
		}
	}
}

func TestTurnAlongNoPath(t *testing.T) {
	for _, path := range [][]int{
		{0, 0}, {5, 5}, {1, 0, 1}, {2, 1, 0, 2}, {3, 4, 4, 5}, {greatest, 3, greatest}, {1, 1, 1},
		{-1}, {0, -1}, {-1, 0}, {2, -1, 3}, {math.MinInt}, {-1, -1},
		{greatest + 1}, {0, greatest + 1}, {greatest + 1, 0}, {math.MaxInt, 1}, {greatest + 1, greatest + 1}, {-1, greatest + 1},
		// As many are left out as are wrong: nothing else makes up for them.
		{0, 1, 2, 3, -1}, {math.MaxInt, 0, 1, 2, 3},
	} {
		for _, s := range [][]int{nil, {}, {0}, {5}, {0, 1, 2}, {1, greatest}} {
			turns(t, s, path)
		}
	}
}

// orders calls do with each order of a list. That list is changed afterwards.
func orders(l []int, do func([]int)) {
	var from func(int)
	from = func(at int) {
		if at == len(l) {
			do(l)
			return
		}
		for i := at; i < len(l); i++ {
			l[at], l[i] = l[i], l[at]
			from(at + 1)
			l[at], l[i] = l[i], l[at]
		}
	}
	from(0)
}

func TestTurnAlongEachOrder(t *testing.T) {
	for here := range 1 << 5 {
		for on := range 1 << 5 {
			want := some(here ^ on)
			orders(some(on), func(path []int) {
				turns(t, some(here), path, want...)
				// What is turned twice is what it was.
				turns(t, want, path, some(here)...)
			})
		}
	}
	orders([]int{1, 1, 0, 2}, func(path []int) { turns(t, []int{0}, path) })
	orders([]int{1, -1, 0, 2}, func(path []int) { turns(t, []int{0}, path) })
	orders([]int{1, greatest + 1, 0, 2}, func(path []int) { turns(t, []int{0}, path) })
}

func TestTurnMany(t *testing.T) {
	all := set.All(100000)
	var even, odd []int
	for _, x := range all {
		if x%2 == 0 {
			even = append(even, x)
		} else {
			odd = append(odd, x)
		}
	}
	back := slices.Clone(all)
	slices.Reverse(back)
	turns(t, even, back, odd...)
	turns(t, odd, back, even...)
	turns(t, all, even, odd...)
	turns(t, even, odd, all...)
	turns(t, nil, back, all...)
	turns(t, even, append(back, 1))
}

func TestTurnLeavesArguments(t *testing.T) {
	for here := range 1 << 4 {
		for on := range 1 << 4 {
			orders(some(on), func(path []int) {
				s, p := roomy(some(here)), roomy(path)
				got := swap.Turn(s, p)
				if !untouched(s, some(here)) || !untouched(p, path) {
					t.Fatalf("%v and %v were changed to %v and %v", some(here), path, s, p)
				}
				// What is written into an argument is not in the answer, nor the other way about.
				overwrite(s)
				if !slices.Equal(got, some(here^on)) {
					t.Fatalf("Turn(%v, %v): %v shares what the set has", some(here), path, got)
				}
				overwrite(got)
				if !untouched(p, path) {
					t.Fatalf("Turn(%v, %v) shares what the path has", some(here), path)
				}
				got = swap.Turn(some(here), p)
				overwrite(p)
				if !slices.Equal(got, some(here^on)) {
					t.Fatalf("Turn(%v, %v): %v shares what the path has", some(here), path, got)
				}
			})
		}
	}
}
