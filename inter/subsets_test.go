package inter_test

import (
	"math/bits"
	"slices"
	"testing"

	"greenwood/api"
	"greenwood/indep"
	"greenwood/inter"
	"greenwood/set"
)

// some tells the set whose bits these are.
func some(bit int) []int {
	var s []int
	for ; bit > 0; bit &= bit - 1 {
		s = append(s, bits.TrailingZeros(uint(bit)))
	}
	return s
}

// count tells how many elements the set with these bits has.
func count(bit int) int { return bits.OnesCount(uint(bit)) }

// A table has of each subset of a matroid's elements, as the bits of its place, how large the largest independent sets
// are that lie in it.
type table []int

// tableOf tells a matroid's table, out of what is independent alone.
func tableOf(m kind) table {
	l := make(table, 1<<m.N)
	for bit := range l {
		if indep.Indep(m, some(bit)) {
			l[bit] = count(bit)
			continue
		}
		for _, x := range some(bit) {
			l[bit] = max(l[bit], l[bit&^(1<<x)])
		}
	}
	return l
}

// in tells whether the set with these bits is independent.
func (l table) in(bit int) bool { return l[bit] == count(bit) }

// model is two matroids, by their tables, and how many elements they have.
type model struct {
	a, b table
	n    int
}

// arc tells whether an arc leads from x to y, in the digraph of a common set.
func (m model) arc(bit, x, y int) bool {
	other := bit ^ 1<<x ^ 1<<y
	switch {
	case bit>>x&1 == bit>>y&1:
		return false
	case bit>>x&1 == 1:
		return m.a.in(other)
	}
	return m.b.in(other)
}

// adds tells whether x is not in a set, and may be added there.
func adds(l table, bit, x int) bool { return bit>>x&1 == 0 && l.in(bit|1<<x) }

// way tells, as bits, the least way of so many points on from x to one that may be added in b; 0, if there is none.
func (m model) way(bit, x, points int) int {
	if points == 1 {
		if adds(m.b, bit, x) {
			return 1 << x
		}
		return 0
	}
	for y := range m.n {
		if m.arc(bit, x, y) {
			if rest := m.way(bit, y, points-1); rest != 0 {
				return rest | 1<<x
			}
		}
	}
	return 0
}

// shortest tells, as bits, the least of the shortest ways from what may be added in a to what may be added in b.
func (m model) shortest(bit int) int {
	for points := 1; points <= m.n; points += 2 {
		for x := range m.n {
			if !adds(m.a, bit, x) {
				continue
			}
			if way := m.way(bit, x, points); way != 0 {
				return way
			}
		}
	}
	return 0
}

// come tells, as bits, what one comes to from what may be added in a.
func (m model) come(bit int) int {
	come := 0
	for x := range m.n {
		if adds(m.a, bit, x) {
			come |= 1 << x
		}
	}
	for more := true; more; {
		more = false
		for x := range m.n {
			for y := range m.n {
				if come>>x&1 == 1 && come>>y&1 == 0 && m.arc(bit, x, y) {
					come |= 1 << y
					more = true
				}
			}
		}
	}
	return come
}

// max tells, as bits, the set that is told, and that of those that one does not come to.
func (m model) max() (int, int) {
	bit := 0
	for {
		way := m.shortest(bit)
		if way == 0 {
			return bit, (1<<m.n - 1) &^ m.come(bit)
		}
		bit ^= way
	}
}

// largest tells how many elements the greatest common set has, of all subsets.
func (m model) largest() int {
	most := 0
	for bit := range m.a {
		if m.a.in(bit) && m.b.in(bit) {
			most = max(most, count(bit))
		}
	}
	return most
}

// likeModel holds what is told of two matroids against the model, and that no other Bound is less.
func likeModel(t *testing.T, a, b kind, m model) {
	t.Helper()
	s, u := m.max()
	tells(t, a, b, some(s), some(u))
	most, least := m.largest(), 2*m.n
	for bit := range m.a {
		want := m.a[bit] + m.b[len(m.b)-1-bit]
		if got := inter.Bound(a, b, some(bit)); got != want || got < most {
			t.Errorf("Bound(%v, %v, %v): %d, want %d; and there are common sets of %d", a, b, some(bit), got, want, most)
		}
		least = min(least, want)
	}
	if count(s) != most || least != most {
		t.Errorf("%v, %v: %v is told, the least Bound is %d, and there are common sets of %d", a, b, some(s), least, most)
	}
	if t.Failed() {
		t.FailNow()
	}
}

// eachTwo holds what is told of each two of these matroids, either way.
func eachTwo(t *testing.T, l []kind) {
	t.Helper()
	tables := make([]table, len(l))
	for i, m := range l {
		tables[i] = tableOf(m)
	}
	for i, a := range l {
		for j, b := range l {
			if a.N == b.N {
				likeModel(t, a, b, model{tables[i], tables[j], a.N})
			}
		}
	}
}

func TestEachTwoTags(t *testing.T) {
	l := []kind{free(6), {N: 6}}
	for _, c := range ofEachTag() {
		l = append(l, c.m, dualOf(c.m))
	}
	eachTwo(t, l)
}

func TestEachTwoUniform(t *testing.T) {
	var l []kind
	for n := range 7 {
		for a := range n + 1 {
			l = append(l, kind{N: n, A: a})
		}
	}
	eachTwo(t, l)
}

func TestEachTwoGraphsOfThreeEdges(t *testing.T) {
	ends := lists{{0, 0}, {0, 1}, {1, 2}, {2, 0}}
	var l []kind
	for _, a := range ends {
		for _, b := range ends {
			for _, c := range ends {
				l = append(l, kind{Tag: api.Graph, N: 3, A: 3, List: lists{a, b, c}})
			}
		}
	}
	eachTwo(t, l)
}

func TestEachTwoPartitionsOfFour(t *testing.T) {
	// Each way to give four elements three classes, of one each.
	var l []kind
	for bit := range 81 {
		l = append(l, kind{Tag: api.Part, N: 4, A: 3, List: lists{{bit % 3, bit / 3 % 3, bit / 9 % 3, bit / 27}, {1, 1, 1}}})
	}
	eachTwo(t, l)
}

// swapped tells a matroid of which the elements are those of another one, in this order.
func swapped(m kind, order []int) kind {
	l := make(lists, m.N)
	for i, x := range order {
		l[i] = m.List[x]
	}
	m.List = l
	return m
}

// orders calls do with each order of n numbers.
func orders(n int, do func([]int)) {
	l := set.All(n)
	var from func(int)
	from = func(at int) {
		if at == n {
			do(slices.Clone(l))
			return
		}
		for i := at; i < n; i++ {
			l[at], l[i] = l[i], l[at]
			from(at + 1)
			l[at], l[i] = l[i], l[at]
		}
	}
	from(0)
}

func TestOrdersOfSix(t *testing.T) {
	// The edges of four vertices, any two of which have one; six edges between two sides; columns modulo 2.
	whole := kind{Tag: api.Graph, N: 6, A: 4, List: lists{{0, 1}, {0, 2}, {0, 3}, {1, 2}, {1, 3}, {2, 3}}}
	sides := kind{Tag: api.Trans, N: 6, A: 3, List: lists{{0}, {0, 1}, {1}, {1, 2}, {2}, {0, 2}}}
	columns := kind{Tag: api.Linear, N: 6, A: 3, B: 2, List: lists{{1, 0, 0}, {1, 1, 0}, {0, 1, 0}, {0, 1, 1}, {0, 0, 1}, {1, 1, 1}}}
	colours := []kind{classes(0, 0, 1, 1, 2, 2), classes(0, 1, 1, 0, 2, 2), whole, dualOf(whole), sides, columns}
	tables := make([]table, len(colours))
	for i, m := range colours {
		tables[i] = tableOf(m)
	}
	at := 0
	orders(6, func(order []int) {
		for _, m := range []kind{whole, sides, columns} {
			a := swapped(m, order)
			i := at % len(colours)
			inA := tableOf(a)
			likeModel(t, a, colours[i], model{inA, tables[i], 6})
			likeModel(t, colours[i], a, model{tables[i], inA, 6})
			at++
		}
	})
}

func TestRowsInEachOrder(t *testing.T) {
	orders(5, func(order []int) {
		a, b := row(order)
		likeModel(t, a, b, model{tableOf(a), tableOf(b), 5})
	})
	for many := range 5 {
		a, b := row(between(many))
		likeModel(t, a, b, model{tableOf(a), tableOf(b), a.N})
	}
}

// arounds tell what is made of a matroid of one element at least, with one more around it.
func arounds() []func(kind) kind {
	return []func(kind) kind{
		func(m kind) kind {
			return kind{Tag: api.Restrict, N: m.N - 1, List: lists{set.All(m.N)[1:]}, Inner: []kind{m}}
		},
		func(m kind) kind {
			return kind{Tag: api.Contract, N: m.N - 1, List: lists{{m.N / 2}}, Inner: []kind{m}}
		},
		func(m kind) kind { return kind{Tag: api.Trunc, N: m.N, A: max(1, m.N-3), Inner: []kind{m}} },
		dualOf,
		func(m kind) kind { return kind{Tag: api.Sum, N: m.N + 1, Inner: []kind{m, {N: 1, A: 1}}} },
	}
}

func TestDeepOnes(t *testing.T) {
	l := ofEachTag()[:api.Restrict]
	for i, c := range l {
		other := l[(i+1)%len(l)].m
		for _, f := range arounds() {
			for _, g := range arounds() {
				for _, h := range arounds() {
					a, b := h(g(f(c.m))), h(f(g(other)))
					if a.N <= 6 {
						likeModel(t, a, b, model{tableOf(a), tableOf(b), a.N})
					}
				}
			}
		}
	}
}
