package greedy_test

import (
	"slices"
	"testing"

	"greenwood/greedy"
	"greenwood/set"
)

// weighs holds how heavy a list is against what is wanted.
func weighs(t *testing.T, w, s []int, want int) {
	t.Helper()
	if got := greedy.Weight(w, s); got != want {
		t.Errorf("Weight(%v, %v): %d, want %d; of %d weights", w[:min(len(w), 20)], s[:min(len(s), 20)], got, want, len(w))
	}
}

func TestWeight(t *testing.T) {
	w := []int{5, -1, 7, 0, -20}
	weighs(t, w, []int{0}, 5)
	weighs(t, w, []int{1}, -1)
	weighs(t, w, []int{3}, 0)
	weighs(t, w, []int{0, 2}, 12)
	weighs(t, w, []int{0, 1, 2}, 11)
	weighs(t, w, []int{2, 4}, -13)
	weighs(t, w, []int{3, 4}, -20)
	weighs(t, w, []int{0, 1, 2, 3, 4}, -9)
	weighs(t, []int{0, 0}, []int{0, 1}, 0)
	weighs(t, []int{heavy, -heavy, heavy}, []int{0, 2}, 2*heavy)
	weighs(t, []int{heavy, -heavy, heavy}, []int{0, 1}, 0)
}

func TestWeightOfNothing(t *testing.T) {
	for _, s := range [][]int{nil, {}} {
		for _, w := range [][]int{nil, {}, {1}, {1, 2, 3}, {least}, {greatest, greatest}} {
			weighs(t, w, s, 0)
		}
	}
	for _, w := range [][]int{nil, {}} {
		for _, s := range [][]int{{0}, {1}, {-1}, {0, 1}, {1, 0}, {heavy}, {greatest}, {least}} {
			weighs(t, w, s, 0)
		}
	}
}

func TestWeightOfNoSet(t *testing.T) {
	w := []int{5, -1, 7, 3}
	for _, s := range [][]int{
		{1, 0}, {0, 0}, {3, 3}, {0, 1, 1}, {0, 2, 1}, {0, 1, 2, 3, 2}, {3, 2, 1, 0}, {2, 0}, {-1}, {-1, 0}, {0, -1}, {-1, 0, 1, 2, 3}, {least}, {least, 0},
	} {
		weighs(t, w, s, 0)
	}
}

func TestWeightOfNoPlace(t *testing.T) {
	w := []int{5, -1, 7, 3}
	weighs(t, w, []int{3}, 3)
	for _, x := range []int{4, 5, 63, 64, 65, 1 << 31, 1 << 32, heavy, heavy + 1, greatest} {
		weighs(t, w, []int{x}, 0)
		weighs(t, w, []int{0, x}, 0)
		weighs(t, w, []int{0, 1, 2, 3, x}, 0)
		weighs(t, w, []int{x, 0}, 0)
	}
	// The room behind the weights is none of theirs.
	weighs(t, append(slices.Clone(w), 9, 9)[:4], []int{0, 4}, 0)
}

func TestWeightOfMany(t *testing.T) {
	for _, n := range []int{64, 65, 4096, 100000, 100001, 300000} {
		w := make([]int, n)
		all, sum := make([]int, n), 0
		for i := range w {
			w[i], all[i] = i%7-2, i
			sum += w[i]
		}
		weighs(t, w, all, sum)
		weighs(t, w, all[1:], sum+2)
		weighs(t, w, all[n-1:], w[n-1])
		weighs(t, w, all[:n-1], sum-w[n-1])
		weighs(t, w[:n-1], all, 0)
		weighs(t, w, []int{n}, 0)
	}
}

func TestWeightOfAnyNumbers(t *testing.T) {
	// Weight takes no matroid: its weights are those that are given.
	weighs(t, []int{heavy + 1, -heavy - 1, 3}, []int{0, 2}, heavy+4)
	weighs(t, []int{greatest, least}, []int{0}, greatest)
	weighs(t, []int{greatest, least}, []int{1}, least)
	weighs(t, []int{greatest, least}, []int{0, 1}, -1)
}

func TestWeightOfEachSubset(t *testing.T) {
	w := []int{1, -10, 100, 0, -1000, 10000}
	for bit := range 1 << len(w) {
		want := 0
		for x := range w {
			want += w[x] * (bit >> x & 1)
		}
		weighs(t, w, some(bit), want)
		weighs(t, w, set.Union(some(bit), []int{6}), 0)
	}
}
