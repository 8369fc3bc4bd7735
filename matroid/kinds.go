package matroid

import (
	"slices"

	"greenwood/api"
	"greenwood/elim"
	"greenwood/match"
	"greenwood/set"
)

// each is how many lists there are where each element has one.
const each = -1

// form is what matroids of one kind take, beside how many elements they have. What they don't take is 0, or empty.
type form struct {
	a, b        bool // whether they take these numbers
	lists       int  // how many
	least, most int  // how many others within
}

var forms = [api.Tags]form{
	api.Uniform:  {a: true},
	api.Graph:    {a: true, lists: each},
	api.Part:     {a: true, lists: 2},
	api.Trans:    {a: true, lists: each},
	api.Linear:   {a: true, b: true, lists: each},
	api.Restrict: {lists: 1, least: 1, most: 1},
	api.Contract: {lists: 1, least: 1, most: 1},
	api.Trunc:    {a: true, least: 1, most: 1},
	api.Dual:     {least: 1, most: 1},
	api.Sum:      {least: 1, most: api.MaxInner},
}

// look tells what is wrong with a matroid that is not too deep, or with one within it; nil of one that may be.
func look(m api.Matroid) error {
	err := lookAt(m)
	for i := 0; i < len(m.Inner) && err == nil; i++ {
		err = look(m.Inner[i])
	}
	if err != nil {
		return wrong{err, m.Tag}
	}
	return nil
}

// lookAt tells what is wrong with a matroid, if those within it may be.
func lookAt(m api.Matroid) error {
	switch {
	case m.Tag < 0 || m.Tag >= api.Tags:
		return errKind
	case m.N < 0 || m.N > api.MaxN || m.A < 0 || m.A > api.MaxV:
		return errMany
	case !takes(forms[m.Tag], m):
		return errForm
	case !fits(m):
		return errFit
	}
	return nil
}

// takes tells whether a matroid has no more and no less than those of its form take.
func takes(f form, m api.Matroid) bool {
	lists := f.lists
	if lists == each {
		lists = m.N
	}
	return (f.a || m.A == 0) && (f.b || m.B == 0) && len(m.List) == lists && len(m.Inner) >= f.least && len(m.Inner) <= f.most
}

// fits tells whether what a matroid has may be together, if it is what its kind takes.
func fits(m api.Matroid) bool {
	switch m.Tag {
	case api.Uniform:
		return m.A <= m.N
	case api.Graph:
		noEdge := func(ends []int) bool { return !numbers(ends, 2, m.A) }
		return m.A >= 1 && !slices.ContainsFunc(m.List, noEdge)
	case api.Part:
		return numbers(m.List[0], m.N, m.A) && numbers(m.List[1], m.A, api.MaxN+1)
	case api.Trans:
		return match.May(m.A, m.List)
	case api.Linear:
		return elim.May(m.B, m.A, m.List)
	case api.Restrict:
		return part(m) && m.N == len(m.List[0])
	case api.Contract:
		return part(m) && m.N+len(m.List[0]) == m.Inner[0].N
	}
	return m.N == together(m.Inner)
}

// numbers tells whether a list has so many numbers, all from 0 to one below that.
func numbers(l []int, many, below int) bool {
	outside := func(x int) bool { return x < 0 || x >= below }
	return len(l) == many && !slices.ContainsFunc(l, outside)
}

// part tells whether the first list has some elements of the first one within.
func part(m api.Matroid) bool { return set.Sub(m.List[0], set.All(m.Inner[0].N)) }

// together tells how many elements matroids have. That may wrap round: then one of them has too many, and may not be.
func together(l []api.Matroid) int {
	n := 0
	for _, m := range l {
		n += m.N
	}
	return n
}
