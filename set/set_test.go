package set_test

import (
	"math"
	"slices"
	"testing"

	"greenwood/set"
)

// top is the greatest number that may be in a set.
const top = 1 << 40

// calls are those that take two sets and tell one.
var calls = []struct {
	name string
	do   func(a, b []int) []int
}{
	{"Union", set.Union},
	{"Meet", set.Meet},
	{"Minus", set.Minus},
}

// noSets are lists that are none, by each of the ways in which a list may fail to be one.
func noSets() [][]int {
	return [][]int{
		{-1},
		{math.MinInt},
		{math.MaxInt},
		{top + 1},
		{-1, 0},
		{-2, -1},
		{math.MinInt, 0},
		{0, top + 1},
		{0, math.MaxInt},
		{top, top + 1},
		{0, 0},
		{5, 5},
		{top, top},
		{1, 2, 2},
		{1, 1, 2},
		{0, 2, 2, 5},
		{2, 1},
		{top, 0},
		{0, -1},
		{math.MaxInt, math.MinInt},
		{0, 2, 1},
		{3, 1, 2},
		{0, 2, 5, 3},
		{1, 2, 3, 4, 5, 6, 7, 8, 9, 0},
	}
}

func sets() [][]int {
	return [][]int{
		nil,
		{},
		{0},
		{5},
		{top - 1},
		{top},
		{0, 1},
		{0, top},
		{top - 1, top},
		{0, 2, 5},
		{1, 2, 3, 4, 5, 6, 7, 8, 9},
	}
}

func TestMay(t *testing.T) {
	for _, l := range sets() {
		if !set.May(l) {
			t.Errorf("%v is a set", l)
		}
	}
	for _, l := range noSets() {
		if set.May(l) {
			t.Errorf("%v is no set", l)
		}
	}
}

func TestHas(t *testing.T) {
	asked := []int{math.MinInt, -top, -1, 0, 1, 2, 3, 4, 5, 6, top - 1, top, top + 1, math.MaxInt}
	for _, l := range sets() {
		for _, x := range asked {
			if got, want := set.Has(l, x), slices.Contains(l, x); got != want {
				t.Errorf("Has(%v, %d): %v", l, x, got)
			}
		}
	}
	for _, l := range noSets() {
		for _, x := range slices.Concat(l, asked) {
			if set.Has(l, x) {
				t.Errorf("%v is no set, and has %d", l, x)
			}
		}
	}
}

func TestAll(t *testing.T) {
	for _, n := range []int{math.MinInt, -100000, -1, 0, 100001, top, math.MaxInt} {
		if l := set.All(n); len(l) != 0 {
			t.Errorf("All(%d): %d numbers", n, len(l))
		}
	}
	for _, n := range []int{1, 2, 3, 64, 99999, 100000} {
		l := set.All(n)
		if len(l) != n || !set.May(l) {
			t.Fatalf("All(%d): %d numbers", n, len(l))
		}
		for i, x := range l {
			if x != i {
				t.Fatalf("All(%d): %d at %d", n, x, i)
			}
		}
	}
}

func TestTwoSets(t *testing.T) {
	cases := []struct {
		a, b, union, meet, minus []int
	}{
		{nil, nil, nil, nil, nil},
		{[]int{0, 2, 5}, nil, []int{0, 2, 5}, nil, []int{0, 2, 5}},
		{nil, []int{0, 2, 5}, []int{0, 2, 5}, nil, nil},
		{[]int{0, 2, 5}, []int{2}, []int{0, 2, 5}, []int{2}, []int{0, 5}},
		{[]int{0, 2, 5}, []int{2, 3}, []int{0, 2, 3, 5}, []int{2}, []int{0, 5}},
		{[]int{2, 3}, []int{0, 2, 5}, []int{0, 2, 3, 5}, []int{2}, []int{3}},
		{[]int{0, 2, 5}, []int{0, 2, 5}, []int{0, 2, 5}, []int{0, 2, 5}, nil},
		{[]int{0, 1}, []int{2, 3}, []int{0, 1, 2, 3}, nil, []int{0, 1}},
		{[]int{2, 3}, []int{0, 1}, []int{0, 1, 2, 3}, nil, []int{2, 3}},
		{[]int{0, 2, 4}, []int{1, 3, 5}, []int{0, 1, 2, 3, 4, 5}, nil, []int{0, 2, 4}},
		{[]int{0, top}, []int{top - 1, top}, []int{0, top - 1, top}, []int{top}, []int{0}},
		{[]int{0, top}, []int{0}, []int{0, top}, []int{0}, []int{top}},
	}
	for _, c := range cases {
		for i, want := range [][]int{c.union, c.meet, c.minus} {
			if l := calls[i].do(c.a, c.b); !slices.Equal(l, want) {
				t.Errorf("%s(%v, %v): %v, want %v", calls[i].name, c.a, c.b, l, want)
			}
		}
	}
}

func TestSub(t *testing.T) {
	cases := []struct {
		a, b []int
		want bool
	}{
		{nil, nil, true},
		{nil, []int{}, true},
		{[]int{}, nil, true},
		{nil, []int{0, 2, 5}, true},
		{[]int{0}, nil, false},
		{[]int{0, 5}, []int{0, 2, 5}, true},
		{[]int{0, 2, 5}, []int{0, 2, 5}, true},
		{[]int{0, 2, 5}, []int{0, 5}, false},
		{[]int{0, 3}, []int{0, 2, 5}, false},
		{[]int{2, 3}, []int{0, 2, 5}, false},
		{[]int{5, 6}, []int{0, 2, 5}, false},
		{[]int{top}, []int{0, top}, true},
		{[]int{top}, []int{0, top - 1}, false},
	}
	for _, c := range cases {
		if got := set.Sub(c.a, c.b); got != c.want {
			t.Errorf("Sub(%v, %v): %v", c.a, c.b, got)
		}
	}
}

func TestNoSets(t *testing.T) {
	for _, l := range noSets() {
		for _, other := range slices.Concat(sets(), noSets()) {
			for _, c := range calls {
				if m := c.do(l, other); len(m) != 0 {
					t.Errorf("%s(%v, %v): %v", c.name, l, other, m)
				}
				if m := c.do(other, l); len(m) != 0 {
					t.Errorf("%s(%v, %v): %v", c.name, other, l, m)
				}
			}
			if set.Sub(l, other) || set.Sub(other, l) {
				t.Errorf("Sub of %v and %v, or the other way", l, other)
			}
		}
	}
}

func TestSort(t *testing.T) {
	cases := []struct {
		l, want []int
	}{
		{nil, nil},
		{[]int{}, nil},
		{[]int{-1}, nil},
		{[]int{math.MinInt, -1, top + 1, math.MaxInt}, nil},
		{[]int{0}, []int{0}},
		{[]int{0, 2, 5}, []int{0, 2, 5}},
		{[]int{5, 2, 0}, []int{0, 2, 5}},
		{[]int{5, -1, 2, 5, top + 1, 0}, []int{0, 2, 5}},
		{[]int{0, 0, 0}, []int{0}},
		{[]int{1, 0, 1, 0}, []int{0, 1}},
		{[]int{math.MaxInt, top, top - 1, top, math.MinInt, 0, -top}, []int{0, top - 1, top}},
	}
	for _, c := range cases {
		if l := set.Sort(c.l); !slices.Equal(l, c.want) {
			t.Errorf("Sort(%v): %v, want %v", c.l, l, c.want)
		}
	}
}

func TestLong(t *testing.T) {
	const n = 300000
	var even, odd, all []int
	for i := range n {
		all = append(all, i)
		if i%2 == 0 {
			even = append(even, i)
		} else {
			odd = append(odd, i)
		}
	}
	falling := slices.Clone(all)
	slices.Reverse(falling)
	if !slices.Equal(set.Union(odd, even), all) || len(set.Meet(odd, even)) != 0 || !slices.Equal(set.Minus(all, even), odd) {
		t.Error("algebra")
	}
	if !set.Sub(odd, all) || set.Sub(all, odd) || !set.Has(all, n-1) || set.Has(odd, n-2) || set.May(falling) {
		t.Error("members")
	}
	if !slices.Equal(set.Sort(slices.Concat(falling, all)), all) {
		t.Error("sort")
	}
}
