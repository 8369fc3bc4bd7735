package swap_test

import (
	"math/bits"
	"slices"
	"testing"

	"greenwood/api"
	"greenwood/indep"
	"greenwood/reach"
	"greenwood/set"
	"greenwood/swap"
)

// some tells the set whose bits these are.
func some(bit int) []int {
	var s []int
	for ; bit > 0; bit &= bit - 1 {
		s = append(s, bits.TrailingZeros(uint(bit)))
	}
	return s
}

// A table has of each subset of a matroid's elements, as the bits of its place, whether it is independent.
type table []bool

// tableOf tells a matroid's table.
func tableOf(m kind) table {
	in := make(table, 1<<m.N)
	for bit := range in {
		in[bit] = indep.Indep(m, some(bit))
	}
	return in
}

// instead tells of a set who may stand for y.
func (in table) instead(n, bit, y int) []int {
	var l []int
	for x := range n {
		if bit>>x&1 == 0 && in[bit&^(1<<y)|1<<x] {
			l = append(l, x)
		}
	}
	return l
}

// more tells who may be added to a set.
func (in table) more(n, bit int) []int {
	var l []int
	for x := range n {
		if bit>>x&1 == 0 && in[bit|1<<x] {
			l = append(l, x)
		}
	}
	return l
}

// wanted tells the digraph of a common set by the tables of both matroids.
func wanted(inA, inB table, n, bit int) lists {
	l := make(lists, n)
	for _, y := range some(bit) {
		l[y] = inA.instead(n, bit, y)
		for _, x := range inB.instead(n, bit, y) {
			l[x] = append(l[x], y)
		}
	}
	return l
}

// largest tells how many elements the greatest common set has.
func largest(inA, inB table) int {
	most := 0
	for bit := range inA {
		if inA[bit] && inB[bit] {
			most = max(most, bits.OnesCount(uint(bit)))
		}
	}
	return most
}

// turned holds that a common set is turned along a shortest way to one of one more, and that there is a way exactly if
// there are greater ones.
func turned(t *testing.T, a, b kind, inA, inB table, bit, most int) {
	t.Helper()
	s := some(bit)
	adj, from, to, _ := swap.Graph(a, b, s)
	path, ok := reach.Path(adj, from, to)
	if !reach.May(adj) || ok != (len(s) < most) {
		t.Fatalf("%v, %v, %v: a way %v, %v, and there are common sets of %d", a, b, s, path, ok, most)
	}
	if !ok {
		return
	}
	other := bit
	for _, x := range path {
		other ^= 1 << x
	}
	turns(t, s, path, some(other)...)
	turns(t, some(other), path, s...)
	if bits.OnesCount(uint(other)) != len(s)+1 || !inA[other] || !inB[other] {
		t.Fatalf("%v, %v, %v: along %v to %v", a, b, s, path, some(other))
	}
	may(t, a, b, some(other), true)
}

// likeTables holds what is told of each subset of two matroids' elements against their tables, and what follows.
func likeTables(t *testing.T, a, b kind, inA, inB table) {
	t.Helper()
	most := largest(inA, inB)
	for bit := range inA {
		s := some(bit)
		if !inA[bit] || !inB[bit] {
			nothing(t, a, b, s)
			continue
		}
		bothWays(t, a, b, s, wanted(inA, inB, a.N, bit), inA.more(a.N, bit), inB.more(a.N, bit))
		turned(t, a, b, inA, inB, bit, most)
	}
	if t.Failed() {
		t.FailNow()
	}
}

// eachTwo holds what is told of each two of these matroids.
func eachTwo(t *testing.T, l []kind) {
	t.Helper()
	tables := make([]table, len(l))
	for i, m := range l {
		tables[i] = tableOf(m)
	}
	for i, a := range l {
		for j, b := range l[:i+1] {
			if a.N == b.N {
				likeTables(t, a, b, tables[i], tables[j])
			}
		}
	}
}

// arounds tell what is made of a matroid of one element at least, with one more around it.
func arounds() []func(kind) kind {
	return []func(kind) kind{
		func(m kind) kind {
			return kind{Tag: api.Restrict, N: m.N - 1, List: lists{set.All(m.N)[1:]}, Inner: []kind{m}}
		},
		func(m kind) kind {
			return kind{Tag: api.Contract, N: m.N - 1, List: lists{{m.N / 2}}, Inner: []kind{m}}
		},
		func(m kind) kind { return kind{Tag: api.Trunc, N: m.N, A: max(1, m.N-3), Inner: []kind{m}} },
		func(m kind) kind { return kind{Tag: api.Dual, N: m.N, Inner: []kind{m}} },
		func(m kind) kind { return kind{Tag: api.Sum, N: m.N + 1, Inner: []kind{m, {N: 1, A: 1}}} },
	}
}

func TestEachTwoTags(t *testing.T) {
	var l []kind
	for _, c := range ofEachTag() {
		l = append(l, c.m)
	}
	eachTwo(t, append(l, free(6), kind{N: 6}))
}

func TestEachTwoUniform(t *testing.T) {
	var l []kind
	for n := range 5 {
		for a := range n + 1 {
			l = append(l, kind{N: n, A: a})
		}
	}
	eachTwo(t, l)
}

func TestEachTwoGraphsOfThreeEdges(t *testing.T) {
	ends := lists{{0, 0}, {0, 1}, {1, 2}, {2, 0}}
	var l []kind
	for _, a := range ends {
		for _, b := range ends {
			for _, c := range ends {
				l = append(l, kind{Tag: api.Graph, N: 3, A: 3, List: lists{a, b, c}})
			}
		}
	}
	eachTwo(t, l)
}

func TestEachTwoPartitionsOfFour(t *testing.T) {
	var l []kind
	for bit := range 1 << 4 {
		for _, most := range [][]int{{1, 1}, {2, 1}} {
			m := kind{Tag: api.Part, N: 4, A: 2, List: lists{{}, most}}
			for x := range 4 {
				m.List[0] = append(m.List[0], bit>>x&1)
			}
			l = append(l, m)
		}
	}
	eachTwo(t, l)
}

func TestDeepOnes(t *testing.T) {
	for i, c := range ofEachTag()[:api.Restrict] {
		other := ofEachTag()[(i+1)%api.Restrict].m
		for j, f := range arounds() {
			for k, g := range arounds() {
				for _, h := range arounds() {
					a, b := h(g(f(c.m))), h(f(g(other)))
					if a.N > 6 || (i+j+k)%2 == 1 {
						continue
					}
					likeTables(t, a, b, tableOf(a), tableOf(b))
				}
			}
		}
	}
}

func TestLongWays(t *testing.T) {
	// Pairs of neighbours, one each, from 0 on and from 1 on: the only shortest way leads along all.
	for n := 1; n <= 9; n += 2 {
		a, b := pairs(n, 1), pairs(n, 0)
		inA, inB := tableOf(a), tableOf(b)
		likeTables(t, a, b, inA, inB)
	}
}

// pairs tells the matroid of n elements of which of each two neighbours, the first ones those from here on, one is taken.
func pairs(n, first int) kind {
	m := kind{Tag: api.Part, N: n, A: n/2 + 1, List: lists{{}, slices.Repeat([]int{1}, n/2+1)}}
	for x := range n {
		m.List[0] = append(m.List[0], (x+first)/2)
	}
	return m
}
