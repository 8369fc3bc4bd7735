package inter_test

import (
	"math"
	"slices"
	"testing"

	"greenwood/api"
	"greenwood/inter"
	"greenwood/set"
)

// greatest is what the greatest number in a set is.
const greatest = 1 << 40

func TestBound(t *testing.T) {
	// A circle of three, and the first two of one colour.
	circle := kind{Tag: api.Graph, N: 3, A: 3, List: lists{{0, 1}, {1, 2}, {2, 0}}}
	colours := classes(0, 0, 1)
	for _, c := range []struct {
		u    []int
		want int
	}{
		{nil, 2}, {[]int{0}, 3}, {[]int{1}, 3}, {[]int{2}, 2}, {[]int{0, 1}, 3}, {[]int{0, 2}, 3}, {[]int{1, 2}, 3}, {[]int{0, 1, 2}, 2},
	} {
		bounds(t, circle, colours, c.u, c.want)
	}
	// By the first one's rank u, by the second one's the others; not the other way round.
	two, none := kind{N: 4, A: 2}, kind{N: 4}
	bounds(t, two, none, []int{1, 3}, 2)
	bounds(t, two, none, []int{3}, 1)
	bounds(t, none, two, []int{3}, 2)
	bounds(t, none, two, []int{0, 1, 3}, 1)
}

func TestBoundOfNothingAndOfAll(t *testing.T) {
	all := set.All(6)
	for _, c := range ofEachTag() {
		for _, d := range ofEachTag() {
			bounds(t, c.m, d.m, nil, len(d.base))
			bounds(t, c.m, d.m, []int{}, len(d.base))
			bounds(t, c.m, d.m, all, len(c.base))
		}
		// Those that never are in a base are as many as none, and those that always are count each.
		bounds(t, c.m, kind{N: 6}, c.never, 0)
		bounds(t, c.m, kind{N: 6}, c.always, len(c.always))
		bounds(t, c.m, free(6), c.never, 6-len(c.never))
		bounds(t, c.m, c.m, c.always, len(c.base))
	}
}

func TestBoundOfUniform(t *testing.T) {
	for n := range 7 {
		for k := range n + 1 {
			for j := range n + 1 {
				for many := range n + 1 {
					bounds(t, kind{N: n, A: k}, kind{N: n, A: j}, set.All(many), min(k, many)+min(j, n-many))
				}
			}
		}
	}
}

// noBound holds that a list has no Bound, whichever of the two is first.
func noBound(t *testing.T, a, b kind, u []int) {
	t.Helper()
	if there, back := inter.Bound(a, b, u), inter.Bound(b, a, u); there != -1 || back != -1 {
		t.Errorf("Bound(%v, %v, %v): %d, and changed about %d", a, b, u, there, back)
	}
}

func TestBoundOfNoSet(t *testing.T) {
	for _, c := range ofEachTag() {
		for _, u := range [][]int{{1, 0}, {0, 0}, {5, 5}, {0, 1, 1}, {0, 2, 1}, {5, 4, 3, 2, 1, 0}, {0, 1, 2, 3, 4, 5, 5}} {
			noBound(t, c.m, free(6), u)
			noBound(t, c.m, c.m, u)
		}
		noBound(t, c.m, free(6), append(slices.Clone(c.base), 0))
	}
	noBound(t, kind{}, kind{}, []int{0})
	noBound(t, kind{}, kind{}, []int{0, 0})
}

func TestBoundOfNoElement(t *testing.T) {
	for _, x := range []int{math.MinInt, -greatest, -1, 6, 7, 63, 64, 65, greatest, greatest + 1, math.MaxInt} {
		for _, c := range ofEachTag() {
			noBound(t, c.m, free(6), []int{x})
			noBound(t, c.m, free(6), append(slices.Clone(c.base), x))
			noBound(t, c.m, c.m, append([]int{x}, c.base...))
		}
		noBound(t, kind{}, kind{}, []int{x})
	}
	noBound(t, free(6), free(6), set.All(7))
	noBound(t, free(6), free(6), set.All(100000))
	noBound(t, free(64), free(64), set.All(65))
	noBound(t, free(64), free(64), []int{64})
}
