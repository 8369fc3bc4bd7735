package matroid_test

import (
	"testing"

	"greenwood/api"
)

// stays tells a matroid of those elements that stay.
func stays(of kind, s ...int) kind {
	return kind{Tag: api.Restrict, N: len(s), List: lists{s}, Inner: inner{of}}
}

// goes tells a matroid of which those elements are contracted.
func goes(of kind, s ...int) kind {
	return kind{Tag: api.Contract, N: of.N - len(s), List: lists{s}, Inner: inner{of}}
}

func TestImage(t *testing.T) {
	ten := free(10)
	cases := []struct {
		m       kind
		s, want []int
	}{
		{stays(graph, 0, 2), []int{1}, []int{2}},
		{stays(graph, 0, 2), []int{0}, []int{0}},
		{stays(graph, 0, 2), []int{0, 1}, []int{0, 2}},
		{stays(graph, 3), []int{0}, []int{3}},
		{stays(graph), nil, nil},
		{stays(graph, 0, 1, 2, 3), []int{1, 3}, []int{1, 3}},
		{stays(ten, 1, 4, 5, 9), []int{0, 2, 3}, []int{1, 5, 9}},
		{stays(ten, 1, 4, 5, 9), nil, nil},
		{goes(graph, 1), []int{0, 1}, []int{0, 2}},
		{goes(graph, 1), []int{0, 1, 2}, []int{0, 2, 3}},
		{goes(graph, 0), []int{0}, []int{1}},
		{goes(graph, 3), []int{0, 2}, []int{0, 2}},
		{goes(graph), []int{0, 3}, []int{0, 3}},
		{goes(graph, 0, 1, 2, 3), nil, nil},
		{goes(graph, 0, 1, 2), []int{0}, []int{3}},
		{goes(ten, 1, 4, 5, 9), []int{0, 1, 2, 5}, []int{0, 2, 3, 8}},
		{goes(ten, 0, 1, 2, 7), []int{0, 3, 4}, []int{3, 6, 8}},
		// Of what lies deeper it is the next one's elements that are told.
		{stays(goes(ten, 0, 1), 0, 5, 7), []int{1, 2}, []int{5, 7}},
		{goes(stays(ten, 0, 5, 7), 1), []int{0, 1}, []int{0, 2}},
		{stays(goes(stays(ten, 2, 3, 4, 5), 0), 1, 2), []int{0}, []int{1}},
		{stays(free(64), rising(64)...), []int{0, 63}, []int{0, 63}},
		{goes(free(64), rising(63)...), []int{0}, []int{63}},
		{goes(free(64), 63), rising(63), rising(63)},
	}
	for _, c := range cases {
		image(t, c.m, c.s, c.want)
		image(t, c.m, nil, nil)
		image(t, c.m, []int{}, nil)
	}
	image(t, stays(free(64), rising(64)...), rising(64), rising(64))
	image(t, goes(free(64)), rising(64), rising(64))
	image(t, stays(free(0)), nil, nil)
	image(t, goes(free(0)), nil, nil)
}

func TestImageOfOtherKinds(t *testing.T) {
	for _, m := range kinds() {
		for _, s := range [][]int{nil, {}, {0}, {0, 1}} {
			if m.Tag != api.Restrict && m.Tag != api.Contract {
				noImage(t, m, s)
			}
		}
	}
	for _, tag := range []int{least, -1, 0, 4, 7, 9, 10, 12, greatest} {
		m := stays(graph, 0, 2)
		m.Tag = tag
		noImage(t, m, []int{0})
		m = goes(graph, 0, 2)
		m.Tag = tag
		noImage(t, m, nil)
	}
}

func TestImageOfNoSetOfElements(t *testing.T) {
	for _, m := range []kind{stays(graph, 0, 1, 3), goes(graph, 2)} {
		for _, s := range [][]int{{3}, {0, 3}, {4}, {-1}, {-1, 0}, {1, 0}, {2, 1}, {1, 1}, {0, 0}, {0, 1, 1}, {0, 1, 2, 3}, {0, 1, 2, 2}, {least}, {greatest}, {0, greatest}, {1 << 40}, {1<<40 + 1}, rising(1000)} {
			noImage(t, m, s)
		}
		image(t, m, []int{0, 1, 2}, []int{0, 1, 3})
	}
	for _, m := range []kind{stays(graph), goes(graph, 0, 1, 2, 3), stays(free(0)), goes(free(0))} {
		noImage(t, m, []int{0})
		noImage(t, m, []int{-1})
		image(t, m, nil, nil)
	}
}

func TestImageOfWhatMayNotBe(t *testing.T) {
	for _, m := range []kind{
		stays(graph, 0, 4),
		stays(graph, 2, 0),
		stays(graph, 1, 1),
		goes(graph, 4),
		goes(graph, 1, 0),
		stays(kind{N: 4, A: 5}, 0, 2),
		goes(kind{N: 4, A: 5}, 0, 2),
		stays(kind{Tag: 10, N: 4}, 0, 2),
		stays(free(65), 0, 1),
		goes(free(65), 0, 1),
		stays(free(greatest), 0, 1),
		goes(free(1<<40), 0, 1),
		{Tag: api.Restrict, N: 3, List: lists{{0, 2}}, Inner: inner{graph}},
		{Tag: api.Restrict, N: 1, List: lists{{0, 2}}, Inner: inner{graph}},
		{Tag: api.Contract, N: 4, List: lists{{1}}, Inner: inner{graph}},
		{Tag: api.Contract, N: 2, List: lists{{1}}, Inner: inner{graph}},
		{Tag: api.Restrict, N: 2, A: 1, List: lists{{0, 2}}, Inner: inner{graph}},
		{Tag: api.Restrict, N: 2, B: 1, List: lists{{0, 2}}, Inner: inner{graph}},
		{Tag: api.Contract, N: 3, A: 1, List: lists{{1}}, Inner: inner{graph}},
		{Tag: api.Restrict, N: 2, List: lists{{0, 2}}},
		{Tag: api.Restrict, N: 2, Inner: inner{graph}},
		{Tag: api.Restrict, N: 2, List: lists{{0, 2}, nil}, Inner: inner{graph}},
		{Tag: api.Restrict, N: 2, List: lists{{0, 2}}, Inner: inner{graph, graph}},
		{Tag: api.Contract, N: 3, List: lists{{1}}, Inner: inner{graph, graph}},
	} {
		for _, s := range [][]int{nil, {}, {0}, {0, 1}, {1}} {
			noImage(t, m, s)
		}
	}
	// As deep as may be, and deeper.
	image(t, stays(wrapped(graph, 2), 0, 2), []int{1}, []int{2})
	image(t, goes(wrapped(graph, 2), 1), []int{1}, []int{2})
	noImage(t, stays(wrapped(graph, 3), 0, 2), []int{1})
	noImage(t, goes(wrapped(graph, 3), 1), []int{1})
	noImage(t, stays(wrapped(graph, 1<<16), 0, 2), nil)
}
