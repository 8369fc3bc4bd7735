package split

import (
	"slices"
	"testing"

	"greenwood/api"
)

// The weights in b of those that may be added there are all 0 at any time, as All goes on: the last one of the four
// numbers is never there, and of those that count none is lighter. Here are weights of which that is not so.

// between tells a common set 0 1, of which 0 is come to, and 2 of the others: 3 and 4 are not.
func between() (graph, []int) {
	return graph{adj: [][]int{{2, 3}, {3}, {0, 1}, {1}, nil}, from: []int{2, 4}, to: []int{2, 3}}, []int{0, 2}
}

func TestEachNumber(t *testing.T) {
	g, come := between()
	for _, c := range []struct{ a, b, want []int }{
		{[]int{5, 99, 9, 1, 2}, []int{-9, 9, 3, 11, 99}, []int{4, 6, 7, 8}},
		{[]int{7, 99, 9, 1, 2}, []int{-9, 7, 3, 11, 99}, []int{6, 4, 7, 8}},
		{[]int{7, 99, 9, 1, 6}, []int{-9, 8, 3, 11, 99}, []int{6, 5, 3, 8}},
		{[]int{7, 99, 9, 1, 2}, []int{-9, 9, 3, 5, 99}, []int{6, 6, 7, 2}},
	} {
		if got := g.gaps(api.Split{S: []int{0, 1}, A: c.a, B: c.b}, come); !slices.Equal(got, c.want) {
			t.Errorf("by %v and %v: %v, want %v", c.a, c.b, got, c.want)
		}
	}
}

func TestNoNumber(t *testing.T) {
	now := api.Split{S: []int{0, 1}, A: []int{5, 99, 9, 1, 2}, B: []int{-9, 9, 3, 11, 99}}
	// Where all are come to no arc leads out, and all that may be added in a count.
	g, _ := between()
	g.to = nil
	if got := g.gaps(now, []int{0, 1, 2, 3, 4}); len(got) != 0 {
		t.Errorf("of all: %v", got)
	}
	// Where nobody is come to, none of the arcs and of those that may be added in b are.
	g.from, g.to = nil, []int{2, 3}
	if got := g.gaps(now, nil); len(got) != 0 {
		t.Errorf("of nobody: %v", got)
	}
	if got := (graph{}).gaps(api.Split{}, nil); len(got) != 0 {
		t.Errorf("of no elements: %v", got)
	}
}

func TestTight(t *testing.T) {
	g, _ := between()
	now := api.Split{S: []int{0, 1}, A: []int{5, 6, 5, 4, 0}, B: []int{2, 1, 1, 2, 0}}
	for i, want := range [][][]int{{{2}, nil, {1}, nil, nil}, {{3}, nil, {0}, {1}, nil}} {
		if got := g.tight(now); !slices.EqualFunc(got, want, slices.Equal[[]int]) {
			t.Errorf("%d: %v, want %v", i, got, want)
		}
		now.A, now.B = []int{4, 6, 5, 4, 0}, []int{2, 3, 2, 3, 0}
	}
}

func TestHeaviest(t *testing.T) {
	w := []int{3, -1, 7, 7, -9, 3}
	for _, c := range []struct{ l, want []int }{
		{nil, nil}, {[]int{}, nil}, {[]int{4}, []int{4}}, {[]int{1, 4}, []int{1}}, {[]int{0, 1, 4, 5}, []int{0, 5}}, {[]int{0, 1, 2, 3, 4, 5}, []int{2, 3}},
	} {
		if got := heaviest(w, c.l); !slices.Equal(got, c.want) {
			t.Errorf("of %v: %v, want %v", c.l, got, c.want)
		}
	}
}
