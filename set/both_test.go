package set_test

import (
	"math"
	"slices"
	"testing"

	"greenwood/set"
)

// members are so few that all their sets can be gone through; the edges are among them.
var members = [...]int{0, 1, 5, top - 1, top}

// of tells the set of those members whose bits mask has.
func of(mask int) []int {
	var l []int
	for i, x := range members {
		if mask>>i&1 == 1 {
			l = append(l, x)
		}
	}
	return l
}

func TestLikeBits(t *testing.T) {
	const masks = 1 << len(members)
	for a := range masks {
		for b := range masks {
			for i, mask := range []int{a | b, a & b, a &^ b} {
				if l := calls[i].do(of(a), of(b)); !slices.Equal(l, of(mask)) {
					t.Errorf("%s(%v, %v): %v", calls[i].name, of(a), of(b), l)
				}
			}
			if got := set.Sub(of(a), of(b)); got != (a&^b == 0) {
				t.Errorf("Sub(%v, %v): %v", of(a), of(b), got)
			}
		}
		for i, x := range members {
			if got := set.Has(of(a), x); got != (a>>i&1 == 1) {
				t.Errorf("Has(%v, %d): %v", of(a), x, got)
			}
		}
	}
}

func TestAlgebraOfTwo(t *testing.T) {
	const masks = 1 << len(members)
	full := of(masks - 1)
	for i := range masks {
		a := of(i)
		law(t, "what both sides have", set.Minus(full, set.Minus(full, a)), a)
		for j := range masks {
			b := of(j)
			law(t, "union turned round", set.Union(a, b), set.Union(b, a))
			law(t, "meet turned round", set.Meet(a, b), set.Meet(b, a))
			law(t, "union takes meet in", set.Union(a, set.Meet(a, b)), a)
			law(t, "meet takes union in", set.Meet(a, set.Union(a, b)), a)
			law(t, "minus and meet", set.Union(set.Minus(a, b), set.Meet(a, b)), a)
			law(t, "minus shares nothing", set.Meet(set.Minus(a, b), b), nil)
			law(t, "minus of minus", set.Minus(a, set.Minus(a, b)), set.Meet(a, b))
			if sub := slices.Equal(set.Union(a, b), b); set.Sub(a, b) != sub || slices.Equal(set.Meet(a, b), a) != sub {
				t.Errorf("Sub(%v, %v)", a, b)
			}
		}
	}
}

func TestAlgebraOfThree(t *testing.T) {
	const masks = 1 << len(members)
	for i := range masks {
		for j := range masks {
			for k := range masks {
				a, b, c := of(i), of(j), of(k)
				law(t, "union of union", set.Union(set.Union(a, b), c), set.Union(a, set.Union(b, c)))
				law(t, "meet of meet", set.Meet(set.Meet(a, b), c), set.Meet(a, set.Meet(b, c)))
				law(t, "meet of union", set.Meet(a, set.Union(b, c)), set.Union(set.Meet(a, b), set.Meet(a, c)))
				law(t, "union of meet", set.Union(a, set.Meet(b, c)), set.Meet(set.Union(a, b), set.Union(a, c)))
				law(t, "minus of union", set.Minus(a, set.Union(b, c)), set.Meet(set.Minus(a, b), set.Minus(a, c)))
				law(t, "minus of meet", set.Minus(a, set.Meet(b, c)), set.Union(set.Minus(a, b), set.Minus(a, c)))
			}
		}
	}
}

func law(t *testing.T, name string, one, other []int) {
	t.Helper()
	if !slices.Equal(one, other) {
		t.Errorf("%s: %v and %v", name, one, other)
	}
}

// lists calls do with all lists of so many numbers that are at the edges.
func lists(size int, do func([]int)) {
	edges := []int{math.MinInt, -1, 0, 1, top, top + 1, math.MaxInt}
	l := make([]int, size)
	var fill func(int)
	fill = func(i int) {
		if i == size {
			do(l)
			return
		}
		for _, e := range edges {
			l[i] = e
			fill(i + 1)
		}
	}
	fill(0)
}

func TestAllLists(t *testing.T) {
	a := []int{0, 2, top}
	look := func(l []int) {
		var sorted []int
		for _, x := range []int{0, 1, top} {
			if slices.Contains(l, x) {
				sorted = append(sorted, x)
			}
		}
		if s := set.Sort(l); !slices.Equal(s, sorted) || !set.May(s) {
			t.Errorf("Sort(%v): %v", l, s)
		}
		may := slices.Equal(sorted, l)
		if set.May(l) != may {
			t.Errorf("May(%v): %v", l, !may)
		}
		if set.Sub(l, l) != may || set.Has(l, 0) != (may && slices.Contains(l, 0)) {
			t.Errorf("Sub or Has of %v", l)
		}
		if !may && len(set.Union(l, a))+len(set.Union(a, l))+len(set.Meet(l, a))+len(set.Meet(a, l))+len(set.Minus(l, a))+len(set.Minus(a, l)) != 0 {
			t.Errorf("of %v, that is no set, something is told", l)
		}
	}
	for size := range 5 {
		lists(size, look)
	}
}

// answers are all the lists that are told of two lists.
func answers(a, b []int) [][]int {
	l := [][]int{set.Sort(a), set.Sort(b), set.All(len(a)), set.All(len(a))}
	for _, c := range calls {
		l = append(l, c.do(a, b))
	}
	return l
}

// fill writes into a list, as far as its memory goes.
func fill(l []int, x int) {
	l = l[:cap(l)]
	for i := range l {
		l[i] = x
	}
}

func TestMemoryIsApart(t *testing.T) {
	inputs := slices.Concat(sets(), [][]int{{5, 2, 0}, {0, 0, 2}, {-1, 2}})
	for _, one := range inputs {
		for _, other := range inputs {
			// Room behind the numbers: what is there isn't the calls' to write, either.
			a, b := append(slices.Clone(one), 7, 7)[:len(one)], append(slices.Clone(other), 7, 7)[:len(other)]
			roomy := func(l, want []int) bool {
				return slices.Equal(l, want) && slices.Equal(l[:len(l)+2][len(l):], []int{7, 7})
			}
			want := answers(one, other)
			set.May(a)
			set.Has(a, 2)
			set.Sub(a, b)
			for i := range want {
				got := answers(a, b)
				fill(got[i], -9)
				if !roomy(a, one) || !roomy(b, other) {
					t.Fatalf("%v and %v were changed to %v and %v", one, other, a, b)
				}
				for j := range want {
					if j != i && !slices.Equal(got[j], want[j]) {
						t.Fatalf("of %v and %v: list %d was changed by list %d", one, other, j, i)
					}
				}
			}
			got := answers(a, b)
			fill(a, -9)
			fill(b, -9)
			if !slices.EqualFunc(got, want, slices.Equal[[]int]) {
				t.Fatalf("of %v and %v: the answers were changed by the arguments", one, other)
			}
		}
	}
}

func TestOneListTwice(t *testing.T) {
	for _, l := range sets() {
		kept := slices.Clone(l)
		if !slices.Equal(set.Union(l, l), l) || !slices.Equal(set.Meet(l, l), l) || len(set.Minus(l, l)) != 0 || !set.Sub(l, l) {
			t.Errorf("%v with itself", l)
		}
		if !slices.Equal(l, kept) {
			t.Errorf("%v was changed to %v", kept, l)
		}
	}
}
