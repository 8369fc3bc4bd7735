package union_test

import (
	"math/bits"
	"slices"
	"testing"

	"greenwood/api"
	"greenwood/indep"
	"greenwood/set"
	"greenwood/union"
)

// some tells the set whose bits these are.
func some(bit int) []int {
	var s []int
	for ; bit > 0; bit &= bit - 1 {
		s = append(s, bits.TrailingZeros(uint(bit)))
	}
	return s
}

// count tells how many elements the set with these bits has.
func count(bit int) int { return bits.OnesCount(uint(bit)) }

// A table has of each subset of a matroid's elements, as the bits of its place, how large the largest independent sets
// are that lie in it.
type table []int

// tableOf tells a matroid's table, out of what is independent alone.
func tableOf(m kind) table {
	l := make(table, 1<<m.N)
	for bit := range l {
		if indep.Indep(m, some(bit)) {
			l[bit] = count(bit)
			continue
		}
		for _, x := range some(bit) {
			l[bit] = max(l[bit], l[bit&^(1<<x)])
		}
	}
	return l
}

// in tells whether the set with these bits is independent.
func (l table) in(bit int) bool { return l[bit] == count(bit) }

// model is several matroids, by their tables, and how many elements they have.
type model struct {
	l []table
	n int
}

// inBits tells, as bits, the elements of class k.
func inBits(of []int, k int) int {
	bit := 0
	for x := range of {
		if of[x] == k {
			bit |= 1 << x
		}
	}
	return bit
}

// arc tells whether an arc leads from x to y, both points of the digraph of some classes.
func (m model) arc(of []int, x, y int) bool {
	switch {
	case x >= m.n:
		return false
	case y >= m.n:
		k := y - m.n
		return of[x] != k && m.l[k].in(inBits(of, k)|1<<x)
	case of[y] < 0 || of[y] == of[x]:
		return false
	}
	return m.l[of[y]].in(inBits(of, of[y])&^(1<<y) | 1<<x)
}

// far tells for each point how many arcs lead on from it, at least, to a matroid's point; too many, if none do.
func (m model) far(of []int) []int {
	const never = 99
	far := append(slices.Repeat([]int{never}, m.n), make([]int, len(m.l))...)
	for more := true; more; {
		more = false
		for x := range m.n {
			for y := range far {
				if far[y]+1 < far[x] && m.arc(of, x, y) {
					far[x], more = far[y]+1, true
				}
			}
		}
	}
	return far
}

// way tells the least of the shortest ways; none, if there is none.
func (m model) way(of []int) []int {
	far := m.far(of)
	at := -1
	for x := range m.n {
		if of[x] < 0 && far[x] <= m.n && (at < 0 || far[x] < far[at]) {
			at = x
		}
	}
	if at < 0 {
		return nil
	}
	way := []int{at}
	for far[at] > 0 {
		next := 0
		for far[next] != far[at]-1 || !m.arc(of, at, next) {
			next++
		}
		at = next
		way = append(way, at)
	}
	return way
}

// come tells, as bits, what one comes to from the elements of no class.
func (m model) come(of []int) int {
	come := inBits(of, -1)
	for more := true; more; {
		more = false
		for x := range m.n {
			for y := range m.n {
				if come>>x&1 == 1 && come>>y&1 == 0 && m.arc(of, x, y) {
					come |= 1 << y
					more = true
				}
			}
		}
	}
	return come
}

// sorts counts what was gone through: ways of each number of points, and how often some elements were left, and none.
type sorts struct {
	ways       [20]int
	left, none int
}

// max tells the classes that are told, and, as bits, the set that goes with them.
func (m model) max(seen *sorts) ([]int, int) {
	of := slices.Repeat([]int{-1}, m.n)
	for way := m.way(of); way != nil; way = m.way(of) {
		seen.ways[len(way)]++
		had := slices.Clone(of)
		for i, next := range way[1:] {
			if next < m.n {
				of[way[i]] = had[next]
			} else {
				of[way[i]] = next - m.n
			}
		}
	}
	if inBits(of, -1) != 0 {
		seen.left++
	} else {
		seen.none++
	}
	return of, m.come(of)
}

// most tells how many elements independent classes have at most, of all subsets: of each, whether they may come to it.
func (m model) most() int {
	come := make([]bool, 1<<m.n)
	come[0] = true
	for _, l := range m.l {
		next := make([]bool, len(come))
		for all := range next {
			// Each part of all, from all of it down to nothing.
			for bit := all; !next[all]; bit = (bit - 1) & all {
				next[all] = l.in(bit) && come[all&^bit]
				if bit == 0 {
					break
				}
			}
		}
		come = next
	}
	most := 0
	for bit := range come {
		if come[bit] {
			most = max(most, count(bit))
		}
	}
	return most
}

// likeModel holds what is told of several matroids against the model, and that no other Bound is less.
func likeModel(t *testing.T, l []kind, m model, seen *sorts) {
	t.Helper()
	of, u := m.max(seen)
	tells(t, l, of, some(u))
	most, least := m.most(), 99
	for bit := range 1 << m.n {
		want := m.n - count(bit)
		for _, one := range m.l {
			want += one[bit]
		}
		if want < most {
			t.Errorf("%v: the Bound of %v is %d, and there are classes of %d", l, some(bit), want, most)
		}
		least = min(least, want)
	}
	if many := m.n - len(union.Class(of, -1)); many != most || least != most {
		t.Errorf("%v: %v is told, the least Bound is %d, and there are classes of %d", l, of, least, most)
	}
	if t.Failed() {
		t.FailNow()
	}
}

// alike holds what is told of these matroids, whose tables are made anew.
func alike(t *testing.T, l []kind, seen *sorts) {
	t.Helper()
	m := model{n: l[0].N}
	for _, one := range l {
		m.l = append(m.l, tableOf(one))
	}
	likeModel(t, l, m, seen)
}

// eachTwo holds what is told of each two of these matroids, either way, of the same one twice, and of it alone.
func eachTwo(t *testing.T, l []kind, seen *sorts) {
	t.Helper()
	tables := make([]table, len(l))
	for i, m := range l {
		tables[i] = tableOf(m)
	}
	for i, a := range l {
		likeModel(t, []kind{a}, model{tables[i : i+1], a.N}, seen)
		for j, b := range l {
			if a.N == b.N {
				likeModel(t, []kind{a, b}, model{[]table{tables[i], tables[j]}, a.N}, seen)
			}
		}
	}
}

// hasSeen holds that there were ways of so many points, and that some elements were left, and none.
func hasSeen(t *testing.T, seen sorts, points int) {
	t.Helper()
	if seen.left == 0 || seen.none == 0 || slices.Contains(seen.ways[2:points+1], 0) {
		t.Errorf("not all was gone through: %v", seen)
	}
}

func TestEachTwoTags(t *testing.T) {
	var seen sorts
	l := []kind{free(6), {N: 6}, whole()}
	for _, c := range ofEachTag() {
		l = append(l, c.m, dualOf(c.m))
	}
	eachTwo(t, l, &seen)
	hasSeen(t, seen, 3)
}

func TestEachThreeTags(t *testing.T) {
	var seen sorts
	var l []kind
	var tables []table
	for _, c := range ofEachTag() {
		// So that three of them don't take all.
		m := kind{Tag: api.Trunc, N: 6, A: 2, Inner: []kind{c.m}}
		l, tables = append(l, m), append(tables, tableOf(m))
	}
	for i, a := range l {
		for j, b := range l {
			for k, c := range l {
				likeModel(t, []kind{a, b, c}, model{[]table{tables[i], tables[j], tables[k]}, 6}, &seen)
			}
		}
	}
	hasSeen(t, seen, 3)
}

func TestEachTwoUniform(t *testing.T) {
	var seen sorts
	var l []kind
	for n := range 6 {
		for a := range n + 1 {
			l = append(l, kind{N: n, A: a})
		}
	}
	eachTwo(t, l, &seen)
	hasSeen(t, seen, 2)
}

func TestEachTwoGraphsOfFourEdges(t *testing.T) {
	var seen sorts
	ends := lists{{0, 0}, {0, 1}, {1, 2}, {2, 0}}
	var l []kind
	for bit := range 256 {
		l = append(l, kind{Tag: api.Graph, N: 4, A: 3, List: lists{ends[bit&3], ends[bit>>2&3], ends[bit>>4&3], ends[bit>>6]}})
	}
	eachTwo(t, l, &seen)
	hasSeen(t, seen, 3)
}

// partsOf tells each way to give so many elements one of these parts, of one each, or none.
func partsOf(n, many int) []kind {
	var l []kind
	var from func(part []int)
	from = func(part []int) {
		if len(part) == n {
			l = append(l, parts(part...))
			return
		}
		for p := -1; p < many; p++ {
			from(append(slices.Clone(part), p))
		}
	}
	from(nil)
	return l
}

func TestEachTwoParts(t *testing.T) {
	var seen sorts
	eachTwo(t, partsOf(4, 2), &seen)
	hasSeen(t, seen, 4)
}

func TestEachThreeParts(t *testing.T) {
	var seen sorts
	l := partsOf(3, 2)
	tables := make([]table, len(l))
	for i, m := range l {
		tables[i] = tableOf(m)
	}
	for i, a := range l {
		for j, b := range l {
			for k, c := range l {
				likeModel(t, []kind{a, b, c}, model{[]table{tables[i], tables[j], tables[k]}, 3}, &seen)
			}
		}
	}
	hasSeen(t, seen, 4)
}

// swapped tells a matroid of which the elements are those of another one, in this order.
func swapped(m kind, order []int) kind {
	l := make(lists, m.N)
	for i, x := range order {
		l[i] = m.List[x]
	}
	m.List = l
	return m
}

// orders calls do with each order of n numbers.
func orders(n int, do func([]int)) {
	l := set.All(n)
	var from func(int)
	from = func(at int) {
		if at == n {
			do(slices.Clone(l))
			return
		}
		for i := at; i < n; i++ {
			l[at], l[i] = l[i], l[at]
			from(at + 1)
			l[at], l[i] = l[i], l[at]
		}
	}
	from(0)
}

func TestOrdersOfSix(t *testing.T) {
	// The edges of four vertices, any two of which have one; six edges of two pairs; whom six may go with; columns modulo 2.
	pairs := kind{Tag: api.Graph, N: 6, A: 4, List: lists{{0, 1}, {0, 1}, {0, 1}, {2, 3}, {2, 3}, {1, 1}}}
	sides := kind{Tag: api.Trans, N: 6, A: 3, List: lists{{0}, {0, 1}, {1}, {1, 2}, {2}, {0, 2}}}
	columns := kind{Tag: api.Linear, N: 6, A: 3, B: 2, List: lists{{1, 0, 0}, {1, 1, 0}, {0, 1, 0}, {0, 1, 1}, {0, 0, 1}, {1, 1, 1}}}
	l := []kind{whole(), pairs, sides, columns, dualOf(whole()), parts(0, 0, 1, 1, 2, -1)}
	var tables []table
	for _, m := range l {
		tables = append(tables, tableOf(m))
	}
	var seen sorts
	at := 0
	orders(6, func(order []int) {
		for _, m := range l[:4] {
			a, i := swapped(m, order), at%len(l)
			inA := tableOf(a)
			likeModel(t, times(2, a), model{[]table{inA, inA}, 6}, &seen)
			likeModel(t, []kind{a, l[i]}, model{[]table{inA, tables[i]}, 6}, &seen)
			likeModel(t, []kind{l[i], a}, model{[]table{tables[i], inA}, 6}, &seen)
			at++
		}
	})
	hasSeen(t, seen, 4)
}

func TestRowsInEachOrder(t *testing.T) {
	var seen sorts
	orders(6, func(order []int) {
		alike(t, row(order, false), &seen)
		alike(t, row(order, true), &seen)
	})
	for many := 1; many <= 5; many++ {
		alike(t, row(late(many), false), &seen)
		alike(t, row(late(many), true), &seen)
	}
	hasSeen(t, seen, 7)
}

func TestEightOfFew(t *testing.T) {
	// Each takes one of up to three of eight elements; the next ones take others.
	var seen sorts
	for step := 1; step < 8; step++ {
		for first := range 8 {
			var l []kind
			for k := range 8 {
				part := slices.Repeat([]int{-1}, 8)
				part[(first+k*step)%8], part[(first+k*k+k)%8], part[(k+first*step)%8] = 0, 0, 0
				l = append(l, parts(part...))
			}
			alike(t, l, &seen)
			alike(t, l[:5], &seen)
			slices.Reverse(l)
			alike(t, l, &seen)
		}
	}
	hasSeen(t, seen, 5)
}

func TestManyEdgesOfFewVertices(t *testing.T) {
	// Nine edges of three vertices, in several orders; up to five times the same, or with edges of four vertices.
	var seen sorts
	for step := 1; step < 30; step++ {
		a, b := kind{Tag: api.Graph, N: 9, A: 3}, kind{Tag: api.Graph, N: 9, A: 4}
		for x := range 9 {
			at := x * step % 31
			a.List = append(a.List, []int{at % 3, (at + 1 + at/9) % 3})
			b.List = append(b.List, []int{at % 4, at / 4 % 4})
		}
		for many := 1; many <= 5; many++ {
			alike(t, times(many, a), &seen)
		}
		alike(t, []kind{a, b}, &seen)
		alike(t, []kind{b, a}, &seen)
		alike(t, []kind{b, a, {N: 9, A: 1}}, &seen)
		alike(t, []kind{{Tag: api.Trunc, N: 9, A: 2, Inner: []kind{b}}, a, parts(0, 1, -1, 0, 1, 0, 1, -1, -1)}, &seen)
	}
	hasSeen(t, seen, 3)
}

func TestTwoTreesOfFiveVertices(t *testing.T) {
	// Eight of the ten edges of five vertices, in several orders: of some two trees are made, of others not.
	var seen sorts
	for step := range 45 {
		m := kind{Tag: api.Graph, N: 8, A: 5}
		for x := range 8 {
			v := (x*(step%9+1) + step/9 + x*x*step/7) % 25
			m.List = append(m.List, []int{v / 5, (v/5 + 1 + v%5%4) % 5})
		}
		alike(t, times(2, m), &seen)
		alike(t, []kind{m, dualOf(m)}, &seen)
		alike(t, []kind{{Tag: api.Trunc, N: 8, A: 3, Inner: []kind{m}}, m}, &seen)
		alike(t, []kind{dualOf(m), {Tag: api.Trunc, N: 8, A: 2, Inner: []kind{m}}}, &seen)
	}
	hasSeen(t, seen, 4)
}

// arounds tell what is made of a matroid of one element at least, with one more around it.
func arounds() []func(kind) kind {
	return []func(kind) kind{
		func(m kind) kind {
			return kind{Tag: api.Restrict, N: m.N - 1, List: lists{set.All(m.N)[1:]}, Inner: []kind{m}}
		},
		func(m kind) kind {
			return kind{Tag: api.Contract, N: m.N - 1, List: lists{{m.N / 2}}, Inner: []kind{m}}
		},
		func(m kind) kind { return kind{Tag: api.Trunc, N: m.N, A: max(1, m.N-4), Inner: []kind{m}} },
		dualOf,
		func(m kind) kind { return kind{Tag: api.Sum, N: m.N + 1, Inner: []kind{m, {N: 1, A: 1}}} },
	}
}

func TestDeepOnes(t *testing.T) {
	var seen sorts
	l := ofEachTag()[:api.Restrict]
	for i, c := range l {
		other := l[(i+1)%len(l)].m
		for _, f := range arounds() {
			for _, g := range arounds() {
				for _, h := range arounds() {
					if a, b := h(g(f(c.m))), h(f(g(other))); a.N <= 6 {
						alike(t, []kind{a, b}, &seen)
						alike(t, []kind{a, a}, &seen)
						alike(t, []kind{b, a, b}, &seen)
					}
				}
			}
		}
	}
	hasSeen(t, seen, 3)
}
