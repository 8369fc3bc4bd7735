package bases_test

import (
	"slices"
	"testing"

	"greenwood/api"
	"greenwood/bases"
	"greenwood/indep"
	"greenwood/set"
	"greenwood/union"
)

type (
	kind  = api.Matroid
	lists = [][]int
)

// free tells the matroid of n elements in which each set is independent.
func free(n int) kind { return kind{N: n, A: n} }

// dualOf tells the dual of a matroid.
func dualOf(m kind) kind { return kind{Tag: api.Dual, N: m.N, Inner: []kind{m}} }

// times tells the same matroid so many times.
func times(many int, m kind) []kind { return slices.Repeat([]kind{m}, many) }

// parts tells the matroid of parts, of each of which one is taken; of -1 none is.
func parts(part ...int) kind {
	m := kind{Tag: api.Part, N: len(part), A: slices.Max(part) + 2, List: lists{nil, nil}}
	for _, x := range part {
		m.List[0] = append(m.List[0], x+1)
	}
	m.List[1] = append([]int{0}, slices.Repeat([]int{1}, m.A-1)...)
	return m
}

// whole tells the matroid of the six edges of four vertices, any two of which have one.
func whole() kind {
	return kind{Tag: api.Graph, N: 6, A: 4, List: lists{{0, 1}, {0, 2}, {0, 3}, {1, 2}, {1, 3}, {2, 3}}}
}

// wide tells the matroid of a circle of three, an edge twice, one of no circle, and two of one vertex alone.
func wide() kind {
	return kind{Tag: api.Graph, N: 8, A: 5, List: lists{{0, 1}, {1, 2}, {2, 0}, {1, 1}, {2, 3}, {3, 2}, {3, 4}, {0, 0}}}
}

// twice tells the matroid of a circle of three, each edge of which is there twice.
func twice() kind {
	return kind{Tag: api.Graph, N: 6, A: 3, List: lists{{0, 1}, {1, 2}, {2, 0}, {0, 1}, {1, 2}, {2, 0}}}
}

// never is how many cover a matroid that none do, as it has an element that is in no base.
const never = 9

// one is a matroid, and what is known of it: how many bases are packed at most, and how few cover it.
type one struct {
	m           kind
	pack, cover int
}

// ofEachTag tells one of six elements of each tag, in their order, each time in new memory.
func ofEachTag() []one {
	return []one{
		{kind{N: 6, A: 2}, 3, 3},
		{whole(), 2, 2},
		// One of 0, 2 and 4; all others.
		{kind{Tag: api.Part, N: 6, A: 3, List: lists{{0, 2, 0, 2, 0, 2}, {1, 0, 3}}}, 1, 3},
		{kind{Tag: api.Trans, N: 6, A: 3, List: lists{{0}, {0, 1}, {1}, {1, 2}, {2}, {0, 2}}}, 2, 2},
		// 0, 1 and 5 come by numbers from one another; 2 is in no base.
		{kind{Tag: api.Linear, N: 6, A: 2, B: 5, List: lists{{1, 0}, {2, 0}, {0, 0}, {0, 1}, {1, 1}, {3, 0}}}, 2, never},
		{kind{Tag: api.Restrict, N: 6, List: lists{{0, 1, 2, 4, 5, 6}}, Inner: []kind{wide()}}, 1, 2},
		// Two edges that are there twice, and two of one vertex alone.
		{kind{Tag: api.Contract, N: 6, List: lists{{1, 6}}, Inner: []kind{wide()}}, 2, never},
		{kind{Tag: api.Trunc, N: 6, A: 2, Inner: []kind{whole()}}, 3, 3},
		{dualOf(twice()), 1, 2},
		{kind{Tag: api.Sum, N: 6, Inner: []kind{{N: 2, A: 1}, {Tag: api.Graph, N: 4, A: 3, List: lists{{0, 1}, {1, 0}, {1, 2}, {2, 1}}}}}, 2, 2},
	}
}

// rank tells how many elements a matroid's bases have.
func rank(m kind) int { return indep.Rank(m, set.All(m.N)) }

// classesOf tells the classes of union.Max of k times a matroid, by their numbers, and the set that goes with them.
func classesOf(t *testing.T, m kind, k int) (lists, []int) {
	t.Helper()
	of, u, e := union.Max(times(k, m))
	if e != api.OK {
		t.Fatalf("Max of %d times %v: %d", k, m, e)
	}
	l := make(lists, k)
	for i := range l {
		l[i] = union.Class(of, i)
	}
	return l, u
}

// sameSets tells whether lists have the same sets, in the same order.
func sameSets(a, b lists) bool { return slices.EqualFunc(a, b, slices.Equal[[]int]) }

// are holds k sets against those that are wanted, and that they are independent, and share no element.
func are(t *testing.T, m kind, l, want lists) {
	t.Helper()
	var seen []int
	for _, s := range l {
		if !indep.Indep(m, s) || len(set.Meet(seen, s)) > 0 {
			t.Errorf("of %v, %v shares with others or is not independent, in %v", m, s, l)
		}
		seen = set.Union(seen, s)
	}
	if !sameSets(l, want) {
		t.Errorf("of %v %d sets %v are told, want %v", m, len(l), l, want)
	}
}

// packs tells whether k bases are packed, and holds what is told.
func packs(t *testing.T, m kind, k int) bool {
	t.Helper()
	l, u, e := bases.Pack(m, k)
	want, with := classesOf(t, m, k)
	if e == api.OK {
		are(t, m, l, want)
		if len(u) > 0 || slices.ContainsFunc(l, func(s []int) bool { return len(s) != rank(m) }) {
			t.Errorf("Pack(%v, %d): %v, %v, want bases of %d", m, k, l, u, rank(m))
		}
		return true
	}
	if e != api.ErrPack || len(l) > 0 || !slices.Equal(u, with) {
		t.Errorf("Pack(%v, %d): %v, %v, %d, want %v, %d", m, k, l, u, e, with, api.ErrPack)
	}
	if outside, miss := m.N-len(u), rank(m)-indep.Rank(m, u); outside >= k*miss {
		t.Errorf("Pack(%v, %d): outside of %v are %d, enough for %d each time", m, k, u, outside, miss)
	}
	return false
}

// covers tells whether k sets cover all elements, and holds what is told.
func covers(t *testing.T, m kind, k int) bool {
	t.Helper()
	l, u, e := bases.Cover(m, k)
	want, with := classesOf(t, m, k)
	if e == api.OK {
		are(t, m, l, want)
		if all := slices.Concat(l...); len(u) > 0 || !slices.Equal(set.Sort(all), set.All(m.N)) {
			t.Errorf("Cover(%v, %d): %v, %v, want all of %d", m, k, l, u, m.N)
		}
		return true
	}
	if e != api.ErrCover || len(l) > 0 || !slices.Equal(u, with) {
		t.Errorf("Cover(%v, %d): %v, %v, %d, want %v, %d", m, k, l, u, e, with, api.ErrCover)
	}
	if r := indep.Rank(m, u); len(u) <= k*r {
		t.Errorf("Cover(%v, %d): %v is %d times %d at most", m, k, u, k, r)
	}
	return false
}

// both holds how many bases are packed at most, and how few sets cover all elements, of each k.
func both(t *testing.T, c one) {
	t.Helper()
	for k := 1; k <= 8; k++ {
		if got := packs(t, c.m, k); got != (k <= c.pack) {
			t.Errorf("%v is packed %d times: %v", c.m, k, got)
		}
		if got := covers(t, c.m, k); got != (k >= c.cover) {
			t.Errorf("%v is covered by %d: %v", c.m, k, got)
		}
	}
}

// packed holds the bases that are told against those that are wanted.
func packed(t *testing.T, m kind, want ...[]int) {
	t.Helper()
	if l, u, e := bases.Pack(m, len(want)); e != api.OK || !sameSets(l, want) || len(u) > 0 {
		t.Errorf("Pack(%v, %d): %v, %v, %d, want %v", m, len(want), l, u, e, want)
	}
	packs(t, m, len(want))
}

// notPacked holds that k bases are not, and the set that is told.
func notPacked(t *testing.T, m kind, k int, want ...int) {
	t.Helper()
	if l, u, e := bases.Pack(m, k); e != api.ErrPack || len(l) > 0 || !slices.Equal(u, want) {
		t.Errorf("Pack(%v, %d): %v, %v, %d, want %v, %d", m, k, l, u, e, want, api.ErrPack)
	}
	packs(t, m, k)
}

// covered holds the sets that cover all elements against those that are wanted.
func covered(t *testing.T, m kind, want ...[]int) {
	t.Helper()
	if l, u, e := bases.Cover(m, len(want)); e != api.OK || !sameSets(l, want) || len(u) > 0 {
		t.Errorf("Cover(%v, %d): %v, %v, %d, want %v", m, len(want), l, u, e, want)
	}
	covers(t, m, len(want))
}

// notCovered holds that k sets don't cover all elements, and the set that is told.
func notCovered(t *testing.T, m kind, k int, want ...int) {
	t.Helper()
	if l, u, e := bases.Cover(m, k); e != api.ErrCover || len(l) > 0 || !slices.Equal(u, want) {
		t.Errorf("Cover(%v, %d): %v, %v, %d, want %v, %d", m, k, l, u, e, want, api.ErrCover)
	}
	covers(t, m, k)
}

func TestExamples(t *testing.T) {
	packed(t, kind{N: 4, A: 2}, []int{0, 1}, []int{2, 3})
	covered(t, kind{N: 5, A: 2}, []int{0, 1}, []int{2, 3}, []int{4})
}

func TestEachTag(t *testing.T) {
	for tag, c := range ofEachTag() {
		if c.m.Tag != tag {
			t.Fatalf("%v is in the place of tag %d", c.m, tag)
		}
		both(t, c)
		both(t, one{kind{Tag: api.Sum, N: 6, Inner: []kind{c.m}}, c.pack, c.cover})
		both(t, one{dualOf(dualOf(c.m)), c.pack, c.cover})
	}
}

func TestOneOfEachTag(t *testing.T) {
	l := ofEachTag()
	least := lists{{0, 1}, {0, 1, 2}, {0, 1, 3, 5}, {0, 1, 3}, {0, 3}, {0, 1, 3, 5}, {0, 3}, {0, 1}, {0, 1, 2, 3}, {0, 2, 4}}
	for tag, base := range least {
		packed(t, l[tag].m, base)
	}
	for _, tag := range []int{api.Uniform, api.Graph, api.Trans, api.Trunc, api.Dual, api.Sum} {
		// Each element may be left out by a base.
		notCovered(t, l[tag].m, 1, 0, 1, 2, 3, 4, 5)
	}
	notCovered(t, l[api.Part].m, 1, 0, 2, 4)
	notCovered(t, l[api.Linear].m, 1, 0, 1, 2, 3, 4, 5)
	notCovered(t, l[api.Restrict].m, 1, 0, 1, 2, 3, 4)
	notCovered(t, l[api.Contract].m, 1, 0, 1, 2, 3, 4, 5)
}

func TestTwoOfEachTag(t *testing.T) {
	l := ofEachTag()
	packed(t, l[api.Uniform].m, []int{0, 1}, []int{2, 3})
	notCovered(t, l[api.Uniform].m, 2, 0, 1, 2, 3, 4, 5)
	// The last edge of all is in a circle in either class; 1 stands there for it, and joins the other one.
	packed(t, l[api.Graph].m, []int{0, 2, 5}, []int{1, 3, 4})
	covered(t, l[api.Graph].m, []int{0, 2, 5}, []int{1, 3, 4})
	notPacked(t, l[api.Part].m, 2, 0, 2, 4)
	notCovered(t, l[api.Part].m, 2, 0, 2, 4)
	packed(t, l[api.Trans].m, []int{0, 1, 3}, []int{2, 4, 5})
	covered(t, l[api.Trans].m, []int{0, 1, 3}, []int{2, 4, 5})
	packed(t, l[api.Linear].m, []int{0, 3}, []int{1, 4})
	notCovered(t, l[api.Linear].m, 2, 0, 1, 2, 5)
	notPacked(t, l[api.Restrict].m, 2)
	covered(t, l[api.Restrict].m, []int{0, 1, 3, 5}, []int{2, 4})
	packed(t, l[api.Contract].m, []int{0, 3}, []int{1, 4})
	notCovered(t, l[api.Contract].m, 2, 2, 5)
	packed(t, l[api.Trunc].m, []int{0, 1}, []int{2, 3})
	notCovered(t, l[api.Trunc].m, 2, 0, 1, 2, 3, 4, 5)
	notPacked(t, l[api.Dual].m, 2)
	covered(t, l[api.Dual].m, []int{0, 1, 2, 3}, []int{4, 5})
	packed(t, l[api.Sum].m, []int{0, 2, 4}, []int{1, 3, 5})
	covered(t, l[api.Sum].m, []int{0, 2, 4}, []int{1, 3, 5})
}

func TestThreeOfEachTag(t *testing.T) {
	l := ofEachTag()
	packed(t, l[api.Uniform].m, []int{0, 1}, []int{2, 3}, []int{4, 5})
	covered(t, l[api.Uniform].m, []int{0, 1}, []int{2, 3}, []int{4, 5})
	notPacked(t, l[api.Graph].m, 3)
	covered(t, l[api.Graph].m, []int{0, 1, 2}, []int{3, 4}, []int{5})
	notPacked(t, l[api.Part].m, 3)
	covered(t, l[api.Part].m, []int{0, 1, 3, 5}, []int{2}, []int{4})
	notPacked(t, l[api.Trans].m, 3)
	notPacked(t, l[api.Linear].m, 3, 2)
	notCovered(t, l[api.Linear].m, 3, 2)
	notPacked(t, l[api.Contract].m, 3, 2, 5)
	packed(t, l[api.Trunc].m, []int{0, 1}, []int{2, 3}, []int{4, 5})
	covered(t, l[api.Trunc].m, []int{0, 1}, []int{2, 3}, []int{4, 5})
	notPacked(t, l[api.Sum].m, 3)
	covered(t, l[api.Sum].m, []int{0, 2, 4}, []int{1, 3, 5}, nil)
}

func TestUniform(t *testing.T) {
	for n := range 12 {
		for a := range n + 1 {
			c := one{kind{N: n, A: a}, 8, never}
			if a > 0 {
				c.pack, c.cover = n/a, (n+a-1)/a
			} else if n == 0 {
				c.cover = 1
			}
			both(t, c)
			both(t, one{dualOf(kind{N: n, A: n - a}), c.pack, c.cover})
		}
	}
}

func TestAsManyAsThereAre(t *testing.T) {
	// k times the rank is one less than there are elements, as many, and one more.
	for k := 2; k <= 8; k++ {
		for a := 1; a <= 5; a++ {
			rise := func(from, many int) []int { return set.Minus(set.All(from+many), set.All(from)) }
			var l lists
			for i := range k {
				l = append(l, rise(i*a, a))
			}
			packed(t, kind{N: k*a + 1, A: a}, l...)
			notCovered(t, kind{N: k*a + 1, A: a}, k, set.All(k*a+1)...)
			packed(t, kind{N: k * a, A: a}, l...)
			covered(t, kind{N: k * a, A: a}, l...)
			notPacked(t, kind{N: k*a - 1, A: a}, k)
			l[k-1] = rise((k-1)*a, a-1)
			covered(t, kind{N: k*a - 1, A: a}, l...)
		}
	}
}

func TestAsManyAndYetNot(t *testing.T) {
	// Twice three are as many as there are edges, but three of these are the same one, and one is in each base.
	m := kind{Tag: api.Graph, N: 6, A: 4, List: lists{{0, 1}, {0, 1}, {0, 1}, {1, 2}, {2, 1}, {2, 3}}}
	both(t, one{m, 1, 3})
	notPacked(t, m, 2, 0, 1, 2)
	notCovered(t, m, 2, 0, 1, 2)
	// More than twice three, too, and yet the seven aren't covered, nor do they hold two bases.
	m.N, m.List = 7, append(m.List, []int{1, 0})
	both(t, one{m, 1, 4})
	notPacked(t, m, 2, 0, 1, 2, 6)
	notCovered(t, m, 3, 0, 1, 2, 6)
}

func TestPackedOrCovered(t *testing.T) {
	// Packed and covered, packed alone, covered alone, and neither.
	for _, c := range []struct {
		m           kind
		k           int
		pack, cover bool
	}{
		{whole(), 2, true, true}, {whole(), 1, true, false}, {whole(), 3, false, true}, {wide(), 2, false, false},
		{parts(0, 0, 1, 1), 2, true, true}, {parts(0, 0, -1, 1, 1), 2, true, false}, {parts(0, 0, 1), 2, false, true}, {parts(0, 0, 0, 1), 2, false, false},
	} {
		if packs(t, c.m, c.k) != c.pack || covers(t, c.m, c.k) != c.cover {
			t.Errorf("%v, %d: want packed %v, covered %v", c.m, c.k, c.pack, c.cover)
		}
	}
}

func TestInNoBase(t *testing.T) {
	// 1 and 4 are in no base: the others are packed and covered as if these were not there.
	m := parts(0, -1, 1, 0, -1, 1)
	packed(t, m, []int{0, 2}, []int{3, 5})
	for k := 2; k <= 8; k++ {
		notCovered(t, m, k, 1, 4)
	}
	notCovered(t, m, 1, 0, 1, 2, 3, 4, 5)
	notPacked(t, m, 3, 1, 4)
	notPacked(t, m, 8, 1, 4)
	both(t, one{m, 2, never})
	both(t, one{kind{Tag: api.Graph, N: 1, A: 1, List: lists{{0, 0}}}, 8, never})
}

func TestInEachBase(t *testing.T) {
	// 0 and 3 are in each base: one is packed, and of the others as many cover all as if these were not there.
	m := parts(0, 1, 1, 2, 1)
	packed(t, m, []int{0, 1, 3})
	notPacked(t, m, 2, 1, 2, 4)
	notPacked(t, m, 3)
	notPacked(t, m, 8)
	notCovered(t, m, 1, 1, 2, 4)
	notCovered(t, m, 2, 1, 2, 4)
	covered(t, m, []int{0, 1, 3}, []int{2}, []int{4})
	both(t, one{m, 1, 3})
	// One is in each base, and one in none.
	both(t, one{parts(0, -1), 1, never})
	notPacked(t, parts(0, -1), 2, 1)
	notPacked(t, parts(0, 1, 1), 2)
}

func TestFree(t *testing.T) {
	for n := 1; n <= 8; n++ {
		both(t, one{free(n), 1, 1})
		both(t, one{dualOf(kind{N: n}), 1, 1})
		packed(t, free(n), set.All(n))
		l := lists{set.All(n)}
		for k := 1; k <= 8; k++ {
			covered(t, free(n), l...)
			l = append(l, nil)
			if k > 1 {
				notPacked(t, free(n), k)
			}
		}
	}
}

func TestRankOfNothing(t *testing.T) {
	for _, m := range []kind{
		{N: 3}, {Tag: api.Graph, N: 3, A: 2, List: lists{{1, 1}, {0, 0}, {1, 1}}}, {Tag: api.Part, N: 3, A: 2, List: lists{{1, 1, 1}, {3, 0}}},
		{Tag: api.Trans, N: 3, A: 1, List: lists{{}, {}, nil}}, {Tag: api.Linear, N: 3, A: 2, B: 7, List: lists{{0, 0}, {0, 0}, {0, 0}}},
		{Tag: api.Restrict, N: 3, List: lists{{0, 1, 2}}, Inner: []kind{{N: 4}}}, {Tag: api.Contract, N: 3, List: lists{{0, 1, 3}}, Inner: []kind{{N: 6, A: 3}}},
		{Tag: api.Trunc, N: 3, Inner: []kind{{N: 3, A: 2}}}, dualOf(free(3)), {Tag: api.Sum, N: 3, Inner: []kind{{N: 1}, {}, {N: 2}}},
	} {
		// So many times nothing is as much as there is to take.
		for k := 1; k <= 8; k++ {
			packed(t, m, make(lists, k)...)
			notCovered(t, m, k, 0, 1, 2)
		}
		both(t, one{m, 8, never})
	}
}

func TestNoElements(t *testing.T) {
	for _, m := range []kind{
		{}, {Tag: api.Graph, A: 1}, {Tag: api.Part, A: 1, List: lists{{}, {2}}}, {Tag: api.Trans, A: 2}, {Tag: api.Linear, A: 2, B: 3},
		{Tag: api.Restrict, List: lists{{}}, Inner: []kind{whole()}}, {Tag: api.Contract, List: lists{set.All(6)}, Inner: []kind{whole()}},
		{Tag: api.Trunc, A: 2, Inner: []kind{{}}}, dualOf(kind{}), {Tag: api.Sum, Inner: []kind{{}, {}}},
	} {
		for k := 1; k <= 8; k++ {
			packed(t, m, make(lists, k)...)
			covered(t, m, make(lists, k)...)
		}
	}
}

func TestInTheOrderOfTheirNumbers(t *testing.T) {
	// Each class takes one, the first one the first one; or the last ones are empty.
	for many := 1; many <= 8; many++ {
		var l lists
		for x := range many {
			l = append(l, []int{x})
		}
		packed(t, kind{N: many, A: 1}, l...)
		covered(t, kind{N: many, A: 1}, l...)
		for len(l) < 8 {
			l = append(l, nil)
			covered(t, kind{N: many, A: 1}, l...)
			notPacked(t, kind{N: many, A: 1}, len(l))
		}
	}
	// The numbers of the classes don't rise with the elements: 1 joins the second one at last, and 5 the first one.
	packed(t, whole(), []int{0, 2, 5}, []int{1, 3, 4})
	covered(t, whole(), []int{0, 2, 5}, []int{1, 3, 4})
	covered(t, parts(0, 0, 1, 1, 1), []int{0, 2}, []int{1, 3}, []int{4})
	covered(t, parts(0, 0, 1, 1, 1), []int{0, 2}, []int{1, 3}, []int{4}, nil)
}

func TestToldSets(t *testing.T) {
	// Five edges between two vertices, one between two others, one at one vertex.
	m := kind{Tag: api.Graph, N: 7, A: 4, List: lists{{0, 1}, {1, 0}, {2, 3}, {0, 1}, {3, 3}, {0, 1}, {1, 0}}}
	packed(t, m, []int{0, 2})
	notPacked(t, m, 2, 0, 1, 3, 4, 5, 6)
	notPacked(t, m, 5, 4)
	notCovered(t, m, 1, 0, 1, 3, 4, 5, 6)
	notCovered(t, m, 4, 0, 1, 3, 4, 5, 6)
	notCovered(t, m, 5, 4)
	notCovered(t, m, 8, 4)
	// Four vertices, each two with an edge, one of these twice, and a fifth one that is joined by one edge.
	m = whole()
	m.N, m.A, m.List = 8, 5, append(m.List, []int{0, 1}, []int{3, 4})
	notPacked(t, m, 2, 0, 1, 2, 3, 4, 5, 6)
	notCovered(t, m, 2, 0, 1, 2, 3, 4, 5, 6)
	both(t, one{m, 1, 3})
}
