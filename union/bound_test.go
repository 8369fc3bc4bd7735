package union_test

import (
	"math"
	"slices"
	"testing"

	"greenwood/indep"
	"greenwood/set"
	"greenwood/union"
)

// greatest is what the greatest number in a set is.
const greatest = 1 << 40

func TestBound(t *testing.T) {
	bounds(t, []kind{{N: 3, A: 1}}, nil, 3)
	bounds(t, []kind{{N: 3, A: 1}}, []int{0, 2}, 2)
	bounds(t, []kind{{N: 3, A: 1}, {N: 3, A: 1}}, []int{0, 1, 2}, 2)
	// A circle of three, and pairs of which one is taken.
	l := []kind{graph(), parts(0, 0, 1, 1, -1, -1)}
	for _, c := range []struct {
		u    []int
		want int
	}{
		{nil, 6}, {[]int{0}, 7}, {[]int{0, 1}, 7}, {[]int{3}, 6}, {[]int{2, 3}, 6}, {[]int{4, 5}, 6}, {[]int{0, 1, 2}, 7}, {[]int{0, 1, 2, 3}, 6}, {[]int{0, 1, 2, 3, 4, 5}, 6},
	} {
		bounds(t, l, c.u, c.want)
	}
}

func TestBoundOfNoneAndOfAll(t *testing.T) {
	all := set.All(6)
	for _, c := range ofEachTag() {
		for many := 1; many <= 8; many++ {
			bounds(t, times(many, c.m), nil, 6)
			bounds(t, times(many, c.m), []int{}, 6)
			bounds(t, times(many, c.m), all, many*len(c.base))
			// Of a base all count each time, and so do the others once.
			bounds(t, times(many, c.m), c.base, many*len(c.base)+6-len(c.base))
		}
		bounds(t, []kind{c.m, dualOf(c.m)}, all, 6)
		bounds(t, []kind{free(6), c.m, {N: 6}}, all, 6+len(c.base))
	}
}

func TestBoundOfUniform(t *testing.T) {
	for n := range 7 {
		for a := range n + 1 {
			for b := range n + 1 {
				for many := range n + 1 {
					u := set.Minus(set.All(n), set.All(n-many))
					bounds(t, []kind{{N: n, A: a}, {N: n, A: b}}, u, n-many+min(a, many)+min(b, many))
					bounds(t, []kind{{N: n, A: a}, {N: n, A: b}, free(n)}, u, n+min(a, many)+min(b, many))
				}
			}
		}
	}
}

func TestBoundOfEachTwo(t *testing.T) {
	for _, c := range ofEachTag() {
		for _, d := range ofEachTag() {
			for bit := range 1 << 6 {
				u := some(bit)
				bounds(t, []kind{c.m, d.m}, u, 6-len(u)+indep.Rank(c.m, u)+indep.Rank(d.m, u))
			}
		}
	}
}

// noBound holds that a list has no Bound of matroids, whichever of them is first.
func noBound(t *testing.T, l []kind, u []int) {
	t.Helper()
	bounds(t, l, u, -1)
}

func TestBoundOfNoSet(t *testing.T) {
	for _, c := range ofEachTag() {
		for _, u := range [][]int{{1, 0}, {0, 0}, {5, 5}, {0, 1, 1}, {0, 2, 1}, {5, 4, 3, 2, 1, 0}, {0, 1, 2, 3, 4, 5, 5}} {
			noBound(t, times(1, c.m), u)
			noBound(t, times(8, c.m), u)
			noBound(t, []kind{c.m, free(6)}, u)
		}
		noBound(t, []kind{c.m, free(6)}, append(slices.Clone(c.base), 0))
	}
	noBound(t, []kind{{}}, []int{0})
	noBound(t, []kind{{}, {}}, []int{0, 0})
}

func TestBoundOfNoElement(t *testing.T) {
	for _, x := range []int{math.MinInt, -greatest, -1, 6, 7, 63, 64, 65, greatest, greatest + 1, math.MaxInt} {
		for _, c := range ofEachTag() {
			noBound(t, times(1, c.m), []int{x})
			noBound(t, []kind{c.m, free(6)}, append(slices.Clone(c.base), x))
			noBound(t, times(3, c.m), append([]int{x}, c.base...))
		}
		noBound(t, []kind{{}}, []int{x})
	}
	for _, many := range []int{7, 64, 65, 100000} {
		noBound(t, []kind{free(6)}, set.All(many))
	}
	noBound(t, times(2, free(64)), set.All(65))
	noBound(t, times(2, free(64)), []int{64})
}

// class holds the set of a class against the one that is wanted.
func class(t *testing.T, of []int, k int, want ...int) {
	t.Helper()
	if got := union.Class(of, k); !slices.Equal(got, want) {
		t.Errorf("Class(%v, %d): %v, want %v", of, k, got, want)
	}
}

func TestClass(t *testing.T) {
	of := []int{1, -1, 0, 1, 7, -1, 0, 0}
	class(t, of, -1, 1, 5)
	class(t, of, 0, 2, 6, 7)
	class(t, of, 1, 0, 3)
	class(t, of, 7, 4)
	for _, k := range []int{math.MinInt, -2, 2, 3, 6, 8, 9, greatest, math.MaxInt} {
		class(t, of, k)
	}
	for k := -3; k < 10; k++ {
		class(t, nil, k)
		class(t, []int{}, k)
		class(t, []int{k}, k, 0)
		class(t, []int{k}, k+1)
		class(t, []int{k, k - 1, k}, k, 0, 2)
		class(t, slices.Repeat([]int{k}, 64), k, set.All(64)...)
		class(t, slices.Repeat([]int{k}, 64), k-1)
	}
}

func TestClassOfOtherNumbers(t *testing.T) {
	of := []int{-2, 8, 9, math.MaxInt, math.MinInt, 8, -2, greatest + 1, 64}
	class(t, of, -2, 0, 6)
	class(t, of, 8, 1, 5)
	class(t, of, 9, 2)
	class(t, of, math.MaxInt, 3)
	class(t, of, math.MinInt, 4)
	class(t, of, greatest+1, 7)
	class(t, of, 64, 8)
	class(t, of, -1)
	class(t, of, 0)
	// More than a matroid has elements.
	class(t, slices.Repeat([]int{3}, 65), 3, set.All(65)...)
	class(t, slices.Repeat([]int{3}, 100000), 3, set.All(100000)...)
	class(t, append(slices.Repeat([]int{3}, 200000), 4), 4, 200000)
}

func TestEachNumberIsSomewhere(t *testing.T) {
	// Classes come to all elements, each once, whatever is in which one.
	for bit := range 256 {
		of := []int{bit&3 - 1, bit>>2&3 - 1, bit>>4&3 - 1, bit>>6 - 1}
		var all []int
		for k := -1; k < 3; k++ {
			for _, x := range union.Class(of, k) {
				if of[x] != k {
					t.Errorf("Class(%v, %d) has %d", of, k, x)
				}
				all = append(all, x)
			}
		}
		if len(all) != 4 || !slices.Equal(set.Sort(all), set.All(4)) {
			t.Errorf("of %v the classes come to %v", of, all)
		}
	}
}
