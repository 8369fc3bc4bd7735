package split_test

import (
	"math"
	"math/bits"
	"slices"
	"testing"

	"greenwood/api"
	"greenwood/indep"
	"greenwood/set"
	"greenwood/split"
)

// some tells the set whose bits these are.
func some(bit int) []int {
	var s []int
	for ; bit > 0; bit &= bit - 1 {
		s = append(s, bits.TrailingZeros(uint(bit)))
	}
	return s
}

// bitsOf tells a set as bits.
func bitsOf(s []int) int {
	bit := 0
	for _, x := range s {
		bit |= 1 << x
	}
	return bit
}

// count tells how many elements the set with these bits has.
func count(bit int) int { return bits.OnesCount(uint(bit)) }

// together tells how heavy the set with these bits is.
func together(w []int, bit int) int {
	sum := 0
	for x := range w {
		sum += w[x] * (bit >> x & 1)
	}
	return sum
}

// A table tells of each subset of a matroid's elements, by its bits, whether it is independent.
type table []bool

// tableOf tells a matroid's table.
func tableOf(m kind) table {
	l := make(table, 1<<m.N)
	for bit := range l {
		l[bit] = indep.Indep(m, some(bit))
	}
	return l
}

// both tells the table of the common sets of two matroids.
func both(a, b table) table {
	l := make(table, len(a))
	for bit := range l {
		l[bit] = a[bit] && b[bit]
	}
	return l
}

// most tells how heavy the heaviest independent set of so many is, and whether there is one.
func (l table) most(w []int, many int) (int, bool) {
	most, there := 0, false
	for bit := range l {
		if count(bit) == many && l[bit] && (!there || together(w, bit) > most) {
			most, there = together(w, bit), true
		}
	}
	return most, there
}

// model is two matroids, by their tables, a common set, as bits, and what its elements weigh in either.
type model struct {
	inA, inB table
	bit      int
	a, b     []int
}

// sorts counts how often each of the four numbers was the least one, and no other one as little.
type sorts [4]int

// arc tells whether an arc leads from x to y, and by how much it is not tight.
func (m *model) arc(x, y int) (bool, int) {
	other := m.bit ^ 1<<x ^ 1<<y
	switch {
	case m.bit>>x&1 == m.bit>>y&1:
		return false, 0
	case m.bit>>x&1 == 1:
		return m.inA[other], m.a[x] - m.a[y]
	}
	return m.inB[other], m.b[y] - m.b[x]
}

// less tells whether x may be added in one of both, and by how much it is less than the greatest one that may.
func (m *model) less(in table, w []int, x int) (bool, int) {
	if m.bit>>x&1 == 1 || !in[m.bit|1<<x] {
		return false, 0
	}
	most := w[x]
	for y := range w {
		if m.bit>>y&1 == 0 && in[m.bit|1<<y] {
			most = max(most, w[y])
		}
	}
	return true, most - w[x]
}

// tight tells whether there is something, and it is not less.
func tight(there bool, less int) bool { return there && less == 0 }

// way tells, as bits, the least tight way of so many points on from x to one that counts in b; 0, if there is none.
func (m *model) way(x, points int) int {
	if points == 1 {
		if tight(m.less(m.inB, m.b, x)) {
			return 1 << x
		}
		return 0
	}
	for y := range m.a {
		if tight(m.arc(x, y)) {
			if rest := m.way(y, points-1); rest != 0 {
				return rest | 1<<x
			}
		}
	}
	return 0
}

// shortest tells, as bits, the least of the shortest tight ways from what counts in a to what counts in b.
func (m *model) shortest() int {
	for points := 1; points <= len(m.a); points += 2 {
		for x := range m.a {
			if !tight(m.less(m.inA, m.a, x)) {
				continue
			}
			if way := m.way(x, points); way != 0 {
				return way
			}
		}
	}
	return 0
}

// come tells, as bits, what one comes to by tight arcs from what counts in a.
func (m *model) come() int {
	come := 0
	for x := range m.a {
		if tight(m.less(m.inA, m.a, x)) {
			come |= 1 << x
		}
	}
	for more := true; more; {
		more = false
		for x := range m.a {
			for y := range m.a {
				if come>>x&1 == 1 && come>>y&1 == 0 && tight(m.arc(x, y)) {
					come |= 1 << y
					more = true
				}
			}
		}
	}
	return come
}

// numbers tells the least one of each of the four numbers; MaxInt, if there is none.
func (m *model) numbers(come int) [4]int {
	least := [4]int{math.MaxInt, math.MaxInt, math.MaxInt, math.MaxInt}
	add := func(sort int, there bool, less int) {
		if there {
			least[sort] = min(least[sort], less)
		}
	}
	for x := range m.a {
		if come>>x&1 == 0 {
			there, less := m.less(m.inA, m.a, x)
			add(2, there, less)
			continue
		}
		there, less := m.less(m.inB, m.b, x)
		add(3, there, less)
		for y := range m.a {
			if come>>y&1 == 0 {
				there, less := m.arc(x, y)
				add(1-m.bit>>x&1, there, less)
			}
		}
	}
	return least
}

// grow goes on till the set is one more, and tells whether it can be.
func (m *model) grow(seen *sorts) bool {
	for {
		if way := m.shortest(); way != 0 {
			m.bit ^= way
			return true
		}
		come := m.come()
		least := m.numbers(come)
		by := slices.Min(least[:])
		if by == math.MaxInt {
			return false
		}
		if at := slices.Index(least[:], by); !slices.Contains(least[at+1:], by) {
			seen[at]++
		}
		for _, x := range some(come) {
			m.a[x] -= by
			m.b[x] += by
		}
	}
}

// told tells what the model tells of two matroids, by their tables.
func told(inA, inB table, w []int, seen *sorts) []parts {
	m := &model{inA: inA, inB: inB, a: slices.Clone(w), b: make([]int, len(w))}
	var l []parts
	for more := true; more; more = m.grow(seen) {
		l = append(l, one(some(m.bit), slices.Clone(m.a), slices.Clone(m.b)))
	}
	return l
}

// likeModel holds what is told of two matroids against the model, and what follows against all subsets.
func likeModel(t *testing.T, a, b kind, inA, inB table, w []int, seen *sorts) {
	t.Helper()
	l, e := split.All(a, b, w)
	if want := told(inA, inB, w, seen); e != api.OK || !alike(l, want) {
		t.Fatalf("All(%v, %v, %v): %v, %d, want %v", a, b, w, l, e, want)
	}
	common := both(inA, inB)
	for k, s := range l {
		bit := bitsOf(s.S)
		for x := range w {
			if s.A[x]+s.B[x] != w[x] {
				t.Fatalf("%v and %v come not to %v", s.A, s.B, w)
			}
		}
		for _, side := range []struct {
			in table
			w  []int
		}{{inA, s.A}, {inB, s.B}, {common, w}} {
			if most, _ := side.in.most(side.w, k); count(bit) != k || !side.in[bit] || together(side.w, bit) != most {
				t.Fatalf("%v, %v: %v is not the heaviest one of %d, by %v", a, b, s.S, k, side.w)
			}
		}
	}
	if _, there := common.most(w, len(l)); there {
		t.Fatalf("%v, %v: there are common sets of %d, too", a, b, len(l))
	}
}

// eachTwo holds what is told of each two of these matroids of as many elements, either way, with each of these weights, and
// tells which numbers were the least ones.
func eachTwo(t *testing.T, l []kind, weights lists) sorts {
	t.Helper()
	var seen sorts
	tables := make([]table, len(l))
	for i, m := range l {
		tables[i] = tableOf(m)
	}
	for i, a := range l {
		for j, b := range l {
			for _, w := range weights {
				if a.N == b.N && a.N == len(w) {
					likeModel(t, a, b, tables[i], tables[j], w, &seen)
				}
			}
		}
	}
	return seen
}

// eachSort holds that each of the first three numbers was the least one. The last one never is there: whoever may be
// added in b weighs nothing there, as he may be from the start on, and has not been come to.
func eachSort(t *testing.T, seen sorts) {
	t.Helper()
	if seen[0] == 0 || seen[1] == 0 || seen[2] == 0 || seen[3] != 0 {
		t.Errorf("the least one was so often one of each number: %v", seen)
	}
}

func TestEachTwoTags(t *testing.T) {
	l := []kind{free(6), {N: 6}}
	for _, m := range ofEachTag() {
		l = append(l, m, dualOf(m))
	}
	eachSort(t, eachTwo(t, l, weightsOfSix()))
}

// weightsOf tells all weights of n elements out of some.
func weightsOf(n int, out ...int) lists {
	if n == 0 {
		return lists{nil}
	}
	var l lists
	for _, w := range weightsOf(n-1, out...) {
		for _, x := range out {
			l = append(l, append(slices.Clone(w), x))
		}
	}
	return l
}

func TestEachTwoPartitionsOfFour(t *testing.T) {
	// Each way to give four elements two classes, of one each, or of which the one has none.
	var l []kind
	for bit := range 16 {
		class := []int{bit & 1, bit >> 1 & 1, bit >> 2 & 1, bit >> 3}
		l = append(l, kind{Tag: api.Part, N: 4, A: 2, List: lists{class, {1, 1}}}, kind{Tag: api.Part, N: 4, A: 2, List: lists{class, {0, 2}}})
	}
	eachTwo(t, l, weightsOf(4, -2, 0, 1))
}

func TestEachTwoGraphsOfThreeEdges(t *testing.T) {
	ends := lists{{0, 0}, {0, 1}, {1, 2}, {2, 0}}
	var l []kind
	for _, a := range ends {
		for _, b := range ends {
			for _, c := range ends {
				l = append(l, kind{Tag: api.Graph, N: 3, A: 3, List: lists{a, b, c}})
			}
		}
	}
	eachTwo(t, l, lists{{1, 2, 4}, {4, 2, 1}, {-1, 3, -1}, {2, 2, 3}, {-1, -2, -2}, {0, 0, 5}})
}

func TestEachTwoUniform(t *testing.T) {
	for n := range 5 {
		var l []kind
		for a := range n + 1 {
			l = append(l, kind{N: n, A: a})
		}
		// In b all others may be added, or none: no arc is needed.
		if seen := eachTwo(t, l, weightsOf(n, -3, 0, 4)); seen[0] != 0 || seen[1] != 0 || seen[3] != 0 {
			t.Errorf("the least one was so often one of each number: %v", seen)
		}
	}
}

// orders calls do with each order of n numbers.
func orders(n int, do func([]int)) {
	l := set.All(n)
	var from func(int)
	from = func(at int) {
		if at == n {
			do(slices.Clone(l))
			return
		}
		for i := at; i < n; i++ {
			l[at], l[i] = l[i], l[at]
			from(at + 1)
			l[at], l[i] = l[i], l[at]
		}
	}
	from(0)
}

func TestWeightsInEachOrder(t *testing.T) {
	// The edges of four vertices, any two of which have one; six edges between two sides; columns modulo 2; a row of pairs.
	whole := kind{Tag: api.Graph, N: 6, A: 4, List: lists{{0, 1}, {0, 2}, {0, 3}, {1, 2}, {1, 3}, {2, 3}}}
	sides := kind{Tag: api.Trans, N: 6, A: 3, List: lists{{0}, {0, 1}, {1}, {1, 2}, {2}, {0, 2}}}
	columns := kind{Tag: api.Linear, N: 6, A: 3, B: 2, List: lists{{1, 0, 0}, {1, 1, 0}, {0, 1, 0}, {0, 1, 1}, {0, 0, 1}, {1, 1, 1}}}
	l := []kind{whole, sides, columns, dualOf(whole), classes(0, 0, 1, 1, 2, 2), classes(0, 1, 1, 2, 2, 0)}
	tables := make([]table, len(l))
	for i, m := range l {
		tables[i] = tableOf(m)
	}
	var seen sorts
	at := 0
	orders(6, func(order []int) {
		w := make([]int, 6)
		for x, place := range order {
			w[x] = []int{9, 7, 4, 2, 1, -3}[place]
		}
		for i, a := range l {
			j := (i + 1 + at%5) % 6
			likeModel(t, a, l[j], tables[i], tables[j], w, &seen)
		}
		at++
	})
}

func TestSquareInEachOrder(t *testing.T) {
	// Whom each of two or three goes with of as many: each order of the weights, or what is as heavy often.
	left, right := pairs([2]int{0, 0}, [2]int{1, 0}, [2]int{0, 1}, [2]int{1, 1})
	inLeft, inRight := tableOf(left), tableOf(right)
	var seen sorts
	for _, w := range weightsOf(4, -5, 0, 1, 2, 6) {
		likeModel(t, left, right, inLeft, inRight, w, &seen)
	}
	row, column := classes(0, 0, 0, 1, 1, 1, 2, 2, 2), classes(0, 1, 2, 0, 1, 2, 0, 1, 2)
	inRow, inColumn := tableOf(row), tableOf(column)
	for _, factor := range []int{1, 2, 3, 4, 5, 7, 8} {
		for _, first := range []int{0, 1, 5} {
			for _, of := range []int{3, 7, 11, 64} {
				w := make([]int, 9)
				for x := range w {
					w[x] = (first+x*x*factor)%of - 2
				}
				likeModel(t, row, column, inRow, inColumn, w, &seen)
				likeModel(t, column, row, inColumn, inRow, w, &seen)
			}
		}
	}
	eachSort(t, seen)
}

// arounds tell what is made of a matroid of one element at least, with one more around it.
func arounds() []func(kind) kind {
	return []func(kind) kind{
		func(m kind) kind {
			return kind{Tag: api.Restrict, N: m.N - 1, List: lists{set.All(m.N)[1:]}, Inner: []kind{m}}
		},
		func(m kind) kind {
			return kind{Tag: api.Contract, N: m.N - 1, List: lists{{m.N / 2}}, Inner: []kind{m}}
		},
		func(m kind) kind { return kind{Tag: api.Trunc, N: m.N, A: max(1, m.N-3), Inner: []kind{m}} },
		dualOf,
		func(m kind) kind { return kind{Tag: api.Sum, N: m.N + 1, Inner: []kind{m, {N: 1, A: 1}}} },
	}
}

func TestDeepOnes(t *testing.T) {
	var seen sorts
	l := ofEachTag()[:api.Restrict]
	for i, m := range l {
		other := l[(i+1)%len(l)]
		for _, f := range arounds() {
			for _, g := range arounds() {
				for _, h := range arounds() {
					a, b := h(g(f(m))), h(f(g(other)))
					if a.N > 6 {
						continue
					}
					inA, inB := tableOf(a), tableOf(b)
					for _, w := range weightsOfSix() {
						likeModel(t, a, b, inA, inB, w[:a.N], &seen)
					}
				}
			}
		}
	}
	eachSort(t, seen)
}
