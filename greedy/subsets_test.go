package greedy_test

import (
	"cmp"
	"math/bits"
	"slices"
	"testing"

	"greenwood/api"
	"greenwood/greedy"
	"greenwood/indep"
	"greenwood/set"
)

// some tells the set whose bits these are.
func some(bit int) []int {
	var s []int
	for ; bit > 0; bit &= bit - 1 {
		s = append(s, bits.TrailingZeros(uint(bit)))
	}
	return s
}

// independents tells all independent sets of a matroid, by how many elements they have.
func independents(m kind) []lists {
	l := make([]lists, m.N+1)
	for bit := range 1 << m.N {
		if s := some(bit); indep.Indep(m, s) {
			l[len(s)] = append(l[len(s)], s)
		}
	}
	for len(l[len(l)-1]) == 0 {
		l = l[:len(l)-1]
	}
	return l
}

// together tells how heavy a set is.
func together(w, s []int) int {
	sum := 0
	for _, x := range s {
		sum += w[x]
	}
	return sum
}

// ahead tells of each element of a set how many of all come ahead of it, least first.
func ahead(w, s []int) []int {
	var l []int
	for _, x := range s {
		many := 0
		for y := range w {
			if w[y] > w[x] || w[y] == w[x] && y < x {
				many++
			}
		}
		l = append(l, many)
	}
	slices.Sort(l)
	return l
}

// heaviest tells the heaviest one of sets that have as many elements, of several the one whose elements come ahead.
func heaviest(w []int, sets lists) []int {
	return slices.MaxFunc(sets, func(a, b []int) int {
		return cmp.Or(cmp.Compare(together(w, a), together(w, b)), slices.Compare(ahead(w, b), ahead(w, a)))
	})
}

// likeSubsets holds what is told of a matroid with weights against all its independent sets, and what follows.
func likeSubsets(t *testing.T, m kind, sets []lists, w []int) {
	t.Helper()
	may(t, m, w, true)
	rank := len(sets) - 1
	for k := -1; k <= m.N+1; k++ {
		takes(t, m, w, k, heaviest(w, sets[min(max(k, 0), rank)])...)
	}
	var above []int
	most := 0
	for _, l := range sets {
		ofAbove := slices.DeleteFunc(slices.Clone(l), func(s []int) bool {
			return slices.ContainsFunc(s, func(x int) bool { return w[x] <= 0 })
		})
		if len(ofAbove) > 0 {
			above = heaviest(w, ofAbove)
		}
		most = max(most, together(w, heaviest(w, l)))
	}
	best(t, m, w, above...)
	if got := greedy.Weight(w, greedy.Best(m, w)); got != most {
		t.Errorf("Best(%v, %v) weighs %d, and another one %d", m, w, got, most)
	}
	if t.Failed() {
		t.FailNow()
	}
}

// weights calls do with each list of n of these numbers. That list is changed afterwards.
func weights(n int, of []int, do func([]int)) {
	w := make([]int, n)
	var from func(int)
	from = func(at int) {
		if at == n {
			do(w)
			return
		}
		for _, x := range of {
			w[at] = x
			from(at + 1)
		}
	}
	from(0)
}

// eachWeights holds what is told of a matroid with each list of these weights.
func eachWeights(t *testing.T, m kind, of ...int) {
	t.Helper()
	sets := independents(m)
	weights(m.N, of, func(w []int) { likeSubsets(t, m, sets, w) })
}

func TestEachTagWithEachWeights(t *testing.T) {
	for _, c := range ofEachTag() {
		switch {
		case c.m.N < 5:
			eachWeights(t, c.m, -2, -1, 0, 1, 2)
		case c.m.N < 7:
			eachWeights(t, c.m, -1, 0, 1)
		default:
			eachWeights(t, c.m, 0, 1)
		}
		likeSubsets(t, c.m, independents(c.m), c.w)
	}
}

func TestEachUniformWithEachWeights(t *testing.T) {
	for n := range 5 {
		for a := range n + 1 {
			eachWeights(t, kind{N: n, A: a}, -heavy, -1, 0, 1, heavy)
		}
	}
}

func TestEachGraphOfThreeEdges(t *testing.T) {
	ends := lists{{0, 0}, {0, 1}, {1, 2}, {2, 0}}
	for _, a := range ends {
		for _, b := range ends {
			for _, c := range ends {
				eachWeights(t, kind{Tag: api.Graph, N: 3, A: 3, List: lists{a, b, c}}, -1, 0, 1, 2)
			}
		}
	}
}

// scattered tells a rule that scatters numbers.
func scattered() func(most int) int {
	seed := 1
	return func(most int) int {
		seed = (seed*1103515245 + 12345) % (1 << 31)
		return seed * most >> 31
	}
}

// scatter tells n weights from -most to most.
func scatter(next func(int) int, n, most int) []int {
	w := make([]int, n)
	for i := range w {
		w[i] = next(2*most+1) - most
	}
	return w
}

// arounds tell what is made of a matroid of one element at least, with one more around it.
func arounds() []func(kind) kind {
	return []func(kind) kind{
		func(m kind) kind {
			return kind{Tag: api.Restrict, N: m.N - 1, List: lists{set.All(m.N)[1:]}, Inner: []kind{m}}
		},
		func(m kind) kind {
			return kind{Tag: api.Contract, N: m.N - 1, List: lists{{m.N / 2}}, Inner: []kind{m}}
		},
		func(m kind) kind { return kind{Tag: api.Trunc, N: m.N, A: max(1, m.N-3), Inner: []kind{m}} },
		func(m kind) kind { return kind{Tag: api.Dual, N: m.N, Inner: []kind{m}} },
		func(m kind) kind { return kind{Tag: api.Sum, N: m.N + 2, Inner: []kind{{N: 2, A: 1}, m}} },
	}
}

// deepest calls do with what is made of each matroid that has none within, as deep as it may be.
func deepest(do func(kind)) {
	for _, c := range ofEachTag() {
		if len(c.m.Inner) > 0 {
			continue
		}
		for _, f := range arounds() {
			for _, g := range arounds() {
				for _, h := range arounds() {
					do(h(g(f(c.m))))
				}
			}
		}
	}
}

func TestDeepWithSomeWeights(t *testing.T) {
	next := scattered()
	deepest(func(m kind) {
		if m.N > 8 {
			return
		}
		sets := independents(m)
		for _, most := range []int{1, 3, 1 << 30} {
			likeSubsets(t, m, sets, scatter(next, m.N, most))
		}
	})
}

func TestTenWithSomeWeights(t *testing.T) {
	next := scattered()
	m := kind{Tag: api.Graph, N: 10, A: 5}
	for v := range 5 {
		for u := range v {
			m.List = append(m.List, []int{u, v})
		}
	}
	sets := independents(m)
	for i := range 30 {
		likeSubsets(t, m, sets, scatter(next, m.N, 1<<i))
	}
}
