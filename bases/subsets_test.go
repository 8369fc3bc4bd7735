package bases_test

import (
	"math/bits"
	"slices"
	"testing"

	"greenwood/api"
	"greenwood/bases"
	"greenwood/indep"
	"greenwood/set"
)

// some tells the set whose bits these are.
func some(bit int) []int {
	var s []int
	for ; bit > 0; bit &= bit - 1 {
		s = append(s, bits.TrailingZeros(uint(bit)))
	}
	return s
}

// count tells how many elements the set with these bits has.
func count(bit int) int { return bits.OnesCount(uint(bit)) }

// bitsOf tells the bits of a set.
func bitsOf(s []int) int {
	bit := 0
	for _, x := range s {
		bit |= 1 << x
	}
	return bit
}

// A table has of each subset of a matroid's elements, as the bits of its place, how large the largest independent sets
// are that lie in it.
type table []int

// tableOf tells a matroid's table, out of what is independent alone.
func tableOf(m kind) table {
	l := make(table, 1<<m.N)
	for bit := range l {
		if indep.Indep(m, some(bit)) {
			l[bit] = count(bit)
			continue
		}
		for _, x := range some(bit) {
			l[bit] = max(l[bit], l[bit&^(1<<x)])
		}
	}
	return l
}

// in tells whether the set with these bits is independent.
func (l table) in(bit int) bool { return l[bit] == count(bit) }

// base tells whether the set with these bits is a base.
func (l table) base(bit int) bool { return l.in(bit) && l[bit] == l[len(l)-1] }

// more tells of each set whether it is one of these, and one of a kind that shares nothing with that one.
func (l table) more(these []bool, is func(int) bool) []bool {
	next := make([]bool, len(l))
	for all := range next {
		// Each part of all, from all of it down to nothing.
		for bit := all; ; bit = (bit - 1) & all {
			next[all] = next[all] || these[all&^bit] && is(bit)
			if bit == 0 {
				break
			}
		}
	}
	return next
}

// nothingYet tells of each set whether it has no element.
func (l table) nothingYet() []bool {
	these := make([]bool, len(l))
	these[0] = true
	return these
}

// sorts counts what was gone through: how often there were k bases, and not, and how often all was covered, and not.
type sorts struct {
	packed, notPacked, covered, notCovered [9]int
}

// most tells the greatest k for which there is a way to cut k bases out of all elements, 8 at most, by going through all.
func (l table) most() int {
	k := 0
	for these := l.nothingYet(); k < 8; k++ {
		if these = l.more(these, l.base); !slices.Contains(these, true) {
			break
		}
	}
	return k
}

// least tells the least k for which k independent sets come to all elements, by going through all; never, if none do.
func (l table) least() int {
	k := 0
	for these := l.nothingYet(); k < 8; {
		k++
		if these = l.more(these, l.in); these[len(l)-1] {
			return k
		}
	}
	return never
}

// apart tells whether there are k sets of a kind, none of which has an element of another one, and how many they have.
func apart(l lists, k int, is func(int) bool) (int, bool) {
	all := 0
	for _, s := range l {
		bit := bitsOf(s)
		if !set.May(s) || all&bit != 0 || !is(bit) {
			return 0, false
		}
		all |= bit
	}
	return count(all), len(l) == k
}

// likeTable holds what is told of a matroid, and each k, against its table.
func likeTable(t *testing.T, m kind, seen *sorts) {
	t.Helper()
	l := tableOf(m)
	all := len(l) - 1
	most, least := l.most(), l.least()
	for k := 1; k <= 8; k++ {
		many, u, e := bases.Pack(m, k)
		bit := bitsOf(u)
		if k <= most {
			seen.packed[k]++
			if has, ok := apart(many, k, l.base); e != api.OK || !ok || has != k*l[all] || len(u) > 0 {
				t.Errorf("Pack(%v, %d): %v, %v, %d", m, k, many, u, e)
			}
		} else {
			seen.notPacked[k]++
			if e != api.ErrPack || len(many) > 0 || !set.May(u) || bit > all || count(all&^bit) >= k*(l[all]-l[bit]) {
				t.Errorf("Pack(%v, %d): %v, %v, %d, want none", m, k, many, u, e)
			}
		}
		many, u, e = bases.Cover(m, k)
		bit = bitsOf(u)
		if k >= least {
			seen.covered[k]++
			if has, ok := apart(many, k, l.in); e != api.OK || !ok || has != m.N || len(u) > 0 {
				t.Errorf("Cover(%v, %d): %v, %v, %d", m, k, many, u, e)
			}
		} else {
			seen.notCovered[k]++
			if e != api.ErrCover || len(many) > 0 || !set.May(u) || bit > all || count(bit) <= k*l[bit] {
				t.Errorf("Cover(%v, %d): %v, %v, %d, want none", m, k, many, u, e)
			}
		}
	}
	// The very sets are those of union.Max.
	both(t, one{m, most, least})
	if t.Failed() {
		t.FailNow()
	}
}

// hasSeen holds that there were k bases up to one k, and all was covered from another one on; that of others there were
// none, and that not all was covered always.
func hasSeen(t *testing.T, seen sorts, pack, cover int) {
	t.Helper()
	for k := 1; k <= 8; k++ {
		if seen.packed[k] > 0 != (k <= pack) || seen.notPacked[k] > 0 != (k > 1) || seen.covered[k] > 0 != (k >= cover) {
			t.Errorf("of k %d other things were gone through than are wanted: %v", k, seen)
		}
	}
	if seen.notCovered[cover] == 0 {
		t.Errorf("all was covered always: %v", seen)
	}
}

func TestLikeTables(t *testing.T) {
	var seen sorts
	for _, c := range ofEachTag() {
		likeTable(t, c.m, &seen)
		likeTable(t, dualOf(c.m), &seen)
		for a := range 6 {
			likeTable(t, kind{Tag: api.Trunc, N: 6, A: a, Inner: []kind{c.m}}, &seen)
		}
	}
	for n := range 9 {
		for a := range n + 1 {
			likeTable(t, kind{N: n, A: a}, &seen)
		}
	}
	hasSeen(t, seen, 8, 1)
}

func TestGraphsOfFourEdges(t *testing.T) {
	var seen sorts
	ends := lists{{0, 0}, {0, 1}, {1, 2}, {2, 0}}
	for bit := range 256 {
		m := kind{Tag: api.Graph, N: 4, A: 3, List: lists{ends[bit&3], ends[bit>>2&3], ends[bit>>4&3], ends[bit>>6]}}
		likeTable(t, m, &seen)
		likeTable(t, dualOf(m), &seen)
	}
	hasSeen(t, seen, 8, 1)
}

func TestAllParts(t *testing.T) {
	var seen sorts
	for at := range 4 * 4 * 4 * 4 * 4 {
		likeTable(t, parts(at%4-1, at/4%4-1, at/16%4-1, at/64%4-1, at/256-1), &seen)
	}
	hasSeen(t, seen, 8, 2)
}

func TestColumnsOfTwoRows(t *testing.T) {
	var seen sorts
	columns := lists{{0, 0}, {0, 1}, {1, 0}, {1, 1}, {1, 2}, {2, 2}}
	for at := range 6 * 6 * 6 {
		likeTable(t, kind{Tag: api.Linear, N: 5, A: 2, B: 3, List: lists{{1, 1}, columns[at%6], columns[at/6%6], columns[at/36], {1, 0}}}, &seen)
	}
	hasSeen(t, seen, 2, 3)
}

func TestSides(t *testing.T) {
	var seen sorts
	for at := range 512 {
		m := kind{Tag: api.Trans, N: 6, A: 3, List: lists{some(at & 7), some(at >> 3 & 7), some(at >> 6), {0}, {1, 2}, {2}}}
		likeTable(t, m, &seen)
	}
	hasSeen(t, seen, 2, 2)
}

// swapped tells a matroid of which the elements are those of another one, in an order that goes on by a step.
func swapped(m kind, step int) kind {
	l := make(lists, m.N)
	for i := range l {
		l[i] = m.List[(i*step+step)%m.N]
	}
	m.List = l
	return m
}

func TestManyEdgesOfFewVertices(t *testing.T) {
	// Eight and nine edges of three, four and five vertices: of some there are two trees, or three, of others not.
	var seen sorts
	for step := range 45 {
		for vertices := 3; vertices <= 5; vertices++ {
			m := kind{Tag: api.Graph, N: 8 + step%2, A: vertices}
			for x := range m.N {
				v := x*(step%9+1) + step/9 + x*x*step/7
				m.List = append(m.List, []int{v / 5 % vertices, (v/5 + 1 + v%5%(vertices-1)) % vertices})
			}
			likeTable(t, m, &seen)
		}
	}
	hasSeen(t, seen, 4, 2)
}

func TestInEachOrder(t *testing.T) {
	var seen sorts
	// Ten edges of five vertices, each two of which have one; seven columns modulo 2, which are all but nothing.
	five := kind{Tag: api.Graph, A: 5}
	for v := range 5 {
		for w := range v {
			five.List = append(five.List, []int{w, v})
			five.N++
		}
	}
	plane := kind{Tag: api.Linear, N: 7, A: 3, B: 2}
	for bit := 1; bit < 8; bit++ {
		plane.List = append(plane.List, []int{bit & 1, bit >> 1 & 1, bit >> 2})
	}
	for _, step := range []int{1, 3, 7, 9} {
		likeTable(t, swapped(five, step), &seen)
	}
	for step := 1; step < 7; step++ {
		likeTable(t, swapped(plane, step), &seen)
		likeTable(t, dualOf(swapped(plane, step)), &seen)
	}
	hasSeen(t, seen, 2, 2)
}

// arounds tell what is made of a matroid of one element at least, with one more around it.
func arounds() []func(kind) kind {
	return []func(kind) kind{
		func(m kind) kind {
			return kind{Tag: api.Restrict, N: m.N - 1, List: lists{set.All(m.N)[1:]}, Inner: []kind{m}}
		},
		func(m kind) kind {
			return kind{Tag: api.Contract, N: m.N - 1, List: lists{{m.N / 2}}, Inner: []kind{m}}
		},
		func(m kind) kind { return kind{Tag: api.Trunc, N: m.N, A: max(1, m.N-4), Inner: []kind{m}} },
		dualOf,
		func(m kind) kind {
			return kind{Tag: api.Sum, N: m.N + 2, Inner: []kind{m, {N: 2, A: 1}}}
		},
	}
}

func TestDeepOnes(t *testing.T) {
	var seen sorts
	for _, c := range ofEachTag()[:api.Restrict] {
		for _, f := range arounds() {
			for _, g := range arounds() {
				for _, h := range arounds() {
					if m := h(g(f(c.m))); m.N <= 7 {
						likeTable(t, m, &seen)
					}
				}
			}
		}
	}
	hasSeen(t, seen, 8, 1)
}
