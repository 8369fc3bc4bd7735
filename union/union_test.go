package union_test

import (
	"slices"
	"testing"

	"greenwood/api"
	"greenwood/indep"
	"greenwood/set"
	"greenwood/union"
)

type (
	kind  = api.Matroid
	lists = [][]int
)

// free tells the matroid of n elements in which each set is independent.
func free(n int) kind { return kind{N: n, A: n} }

// dualOf tells the dual of a matroid.
func dualOf(m kind) kind { return kind{Tag: api.Dual, N: m.N, Inner: []kind{m}} }

// times tells the same matroid so many times.
func times(many int, m kind) []kind { return slices.Repeat([]kind{m}, many) }

// parts tells the matroid of parts, of each of which one is taken; of -1 none is.
func parts(part ...int) kind {
	m := kind{Tag: api.Part, N: len(part), A: slices.Max(part) + 2, List: lists{nil, nil}}
	for _, x := range part {
		m.List[0] = append(m.List[0], x+1)
	}
	m.List[1] = append([]int{0}, slices.Repeat([]int{1}, m.A-1)...)
	return m
}

// whole tells the matroid of the six edges of four vertices, any two of which have one.
func whole() kind {
	return kind{Tag: api.Graph, N: 6, A: 4, List: lists{{0, 1}, {0, 2}, {0, 3}, {1, 2}, {1, 3}, {2, 3}}}
}

// graph tells the matroid of a circle of three, an edge of one vertex alone, and two edges of no circle.
func graph() kind {
	return kind{Tag: api.Graph, N: 6, A: 5, List: lists{{0, 1}, {1, 2}, {2, 0}, {1, 1}, {2, 3}, {3, 4}}}
}

// wide tells the matroid of a circle of three, an edge twice, one of no circle, and two of one vertex alone.
func wide() kind {
	return kind{Tag: api.Graph, N: 8, A: 5, List: lists{{0, 1}, {1, 2}, {2, 0}, {1, 1}, {2, 3}, {3, 2}, {3, 4}, {0, 0}}}
}

// one is a matroid, and what is known of it.
type one struct {
	m      kind
	base   []int // the least one
	always []int // those that each base has
	again  []int // what the second one tells of all, if the matroid is there twice: each element's class
	left   []int // and the set that goes with these
}

// ofEachTag tells one of six elements of each tag, in their order, each time in new memory.
func ofEachTag() []one {
	const no = -1
	return []one{
		{kind{N: 6, A: 2}, []int{0, 1}, nil, []int{0, 0, 1, 1, no, no}, []int{0, 1, 2, 3, 4, 5}},
		{graph(), []int{0, 1, 4, 5}, []int{4, 5}, []int{0, 0, 1, no, 0, 0}, []int{3}},
		{kind{Tag: api.Part, N: 6, A: 3, List: lists{{0, 2, 0, 1, 2, 2}, {1, 0, 3}}}, []int{0, 1, 4, 5}, []int{1, 4, 5}, []int{0, 0, 1, no, 0, 0}, []int{3}},
		{kind{Tag: api.Trans, N: 6, A: 4, List: lists{{0}, {0, 1}, {}, {1}, {1, 2}, {3}}}, []int{0, 1, 4, 5}, []int{4, 5}, []int{0, 0, no, 1, 0, 0}, []int{2}},
		{kind{Tag: api.Linear, N: 6, A: 3, B: 5, List: lists{{1, 0, 2}, {2, 0, 4}, {0, 0, 0}, {0, 1, 0}, {1, 1, 2}, {0, 0, 1}}}, []int{0, 3, 5}, []int{5}, []int{0, 1, no, 0, 1, 0}, []int{2}},
		{kind{Tag: api.Restrict, N: 6, List: lists{{0, 1, 2, 4, 6, 7}}, Inner: []kind{wide()}}, []int{0, 1, 3, 4}, []int{3, 4}, []int{0, 0, 1, 0, 0, no}, []int{5}},
		{kind{Tag: api.Contract, N: 6, List: lists{{1, 3}}, Inner: []kind{wide()}}, []int{0, 2, 4}, []int{4}, []int{0, 1, 0, 1, 0, no}, []int{5}},
		{kind{Tag: api.Trunc, N: 6, A: 3, Inner: []kind{graph()}}, []int{0, 1, 4}, nil, []int{0, 0, 1, no, 0, 1}, []int{3}},
		{dualOf(graph()), []int{0, 3}, []int{3}, []int{0, 1, no, 0, no, no}, []int{0, 1, 2, 4, 5}},
		{kind{Tag: api.Sum, N: 6, Inner: []kind{{N: 2, A: 1}, {Tag: api.Graph, N: 4, A: 3, List: lists{{0, 1}, {1, 0}, {1, 2}, {2, 2}}}}}, []int{0, 2, 4}, []int{4}, []int{0, 1, 0, 1, 0, no}, []int{5}},
	}
}

// tells holds what is told of several matroids against what is wanted, and that the one proves the other.
func tells(t *testing.T, l []kind, of, u []int) {
	t.Helper()
	got, with, e := union.Max(l)
	if e != api.OK || !slices.Equal(got, of) || !slices.Equal(with, u) {
		t.Errorf("Max(%v): %v, %v, %d, want %v, %v", l, got, with, e, of, u)
	}
	proves(t, l, got, with)
}

// proves holds that classes are independent, and have as many elements as a Bound.
func proves(t *testing.T, l []kind, of, u []int) {
	t.Helper()
	many := 0
	for k, m := range l {
		s := union.Class(of, k)
		many += len(s)
		if !indep.Indep(m, s) {
			t.Errorf("of %v class %d is not independent in %v", of, k, m)
		}
	}
	if left := union.Class(of, -1); len(of) != l[0].N || many+len(left) != len(of) {
		t.Errorf("of %d elements %v tells %d classes, and %v has none", l[0].N, of, many, left)
	}
	bounds(t, l, u, many)
}

// bounds holds the Bound of a set against the one that is wanted, in whatever order the matroids are.
func bounds(t *testing.T, l []kind, u []int, want int) {
	t.Helper()
	back := slices.Clone(l)
	slices.Reverse(back)
	if got, other := union.Bound(l, u), union.Bound(back, u); got != want || other != want {
		t.Errorf("Bound(%v, %v): %d, and of the last one first %d, want %d", l, u, got, other, want)
	}
}

// inClass tells of n elements those of a set to be in class k, and the others in another one.
func inClass(n int, s []int, k, other int) []int {
	of := slices.Repeat([]int{other}, n)
	for _, x := range s {
		of[x] = k
	}
	return of
}

func TestExample(t *testing.T) {
	m := kind{N: 3, A: 1}
	tells(t, []kind{m, m}, []int{0, 1, -1}, []int{0, 1, 2})
}

func TestOneOfEachTag(t *testing.T) {
	for tag, c := range ofEachTag() {
		if c.m.Tag != tag {
			t.Fatalf("%v is in the place of tag %d", c.m, tag)
		}
		// Who is left may stand for all but those that each base has; nobody has another class to go to.
		tells(t, []kind{c.m}, inClass(6, c.base, 0, -1), set.Minus(set.All(6), c.always))
	}
}

func TestTwiceEachTag(t *testing.T) {
	for _, c := range ofEachTag() {
		tells(t, times(2, c.m), c.again, c.left)
	}
}

func TestEachTagAndFree(t *testing.T) {
	for _, c := range ofEachTag() {
		tells(t, []kind{c.m, free(6)}, inClass(6, c.base, 0, 1), nil)
		tells(t, []kind{free(6), c.m}, make([]int, 6), nil)
		// Also among others, of which nobody takes any.
		none := kind{N: 6}
		tells(t, []kind{none, c.m, none, free(6), c.m, none}, inClass(6, c.base, 1, 3), nil)
		tells(t, []kind{none, free(6), c.m}, inClass(6, nil, 0, 1), nil)
	}
}

func TestEachTagAndNone(t *testing.T) {
	none := kind{N: 6}
	for _, c := range ofEachTag() {
		u := set.Minus(set.All(6), c.always)
		tells(t, []kind{c.m, none}, inClass(6, c.base, 0, -1), u)
		tells(t, []kind{none, c.m}, inClass(6, c.base, 1, -1), u)
		tells(t, []kind{none, none, none, none, none, none, none, c.m}, inClass(6, c.base, 7, -1), u)
	}
	for many := 1; many <= 8; many++ {
		tells(t, times(many, none), inClass(6, nil, 0, -1), set.All(6))
	}
}

func TestEachTagAndItsDual(t *testing.T) {
	for _, c := range ofEachTag() {
		// What a base leaves is a base of the dual.
		tells(t, []kind{c.m, dualOf(c.m)}, inClass(6, c.base, 0, 1), nil)
		tells(t, []kind{c.m, dualOf(c.m), c.m, dualOf(c.m)}, inClass(6, c.base, 0, 1), nil)
	}
	// The dual first: 0 and 3 are what a base may leave there.
	tells(t, []kind{dualOf(graph()), graph()}, []int{0, 1, 1, 0, 1, 1}, nil)
	tells(t, []kind{whole(), dualOf(whole())}, []int{0, 0, 0, 1, 1, 1}, nil)
	tells(t, []kind{dualOf(whole()), whole()}, []int{0, 0, 1, 0, 1, 1}, nil)
	tells(t, []kind{free(3), dualOf(free(3))}, []int{0, 0, 0}, nil)
	tells(t, []kind{dualOf(free(3)), free(3)}, []int{1, 1, 1}, nil)
}

func TestUniform(t *testing.T) {
	for n := range 10 {
		for many := 1; many <= 8; many++ {
			for a := range n + 1 {
				// Each takes those that the ones ahead have no room for.
				of, u := make([]int, n), set.All(n)
				for x := range of {
					of[x] = -1
					if x < a*many {
						of[x] = x / a
					}
				}
				if a*many >= n {
					u = nil
				}
				tells(t, times(many, kind{N: n, A: a}), of, u)
			}
		}
	}
}

func TestUnlikeUniform(t *testing.T) {
	tells(t, []kind{{N: 7, A: 1}, {N: 7, A: 3}, {N: 7}, {N: 7, A: 2}}, []int{0, 1, 1, 1, 3, 3, -1}, set.All(7))
	tells(t, []kind{{N: 7, A: 3}, {N: 7, A: 2}, {N: 7}, {N: 7, A: 1}}, []int{0, 0, 0, 1, 1, 3, -1}, set.All(7))
	tells(t, []kind{{N: 7, A: 2}, {N: 7}, {N: 7, A: 1}, {N: 7, A: 7}}, []int{0, 0, 2, 3, 3, 3, 3}, nil)
}

func TestAtOnce(t *testing.T) {
	// The first matroid that takes it, of those in their order.
	tells(t, []kind{parts(0, 0, 0), parts(0, 0, 1), parts(0, 1, 1)}, []int{0, 1, 1}, nil)
	tells(t, []kind{parts(0, 1, 1), parts(0, 0, 1), parts(0, 0, 0)}, []int{0, 0, 1}, nil)
	tells(t, []kind{parts(-1, 0, 0), parts(-1, -1, 0), parts(0, 0, 0)}, []int{2, 0, 1}, nil)
}

func TestOthersChange(t *testing.T) {
	// The last edge of all four vertices is in a circle in either class; 1 stands there for it, and joins the other one.
	tells(t, times(2, whole()), []int{0, 1, 0, 1, 1, 0}, nil)
	// 2 takes the class of 1, and 1 that of 0, who has room in the third one.
	tells(t, []kind{parts(0, 1, 1), parts(-1, 0, -1), parts(0, 0, 0)}, []int{0, 0, 2}, nil)
	tells(t, []kind{parts(0, 1, 1), parts(-1, 0, -1), parts(0, -1, -1)}, []int{0, 1, 0}, nil)
	tells(t, []kind{parts(0, 0, -1), parts(-1, 0, 0), parts(0, -1, -1)}, []int{2, 0, 1}, nil)
}

func TestOneOfSeveral(t *testing.T) {
	// 2 and 3 are left, and the second one has room for one of 0 and 1: 2 goes first, though 3 goes by less.
	tells(t, []kind{parts(0, 1, 1, 0), parts(0, 0, -1, -1)}, []int{0, 1, 0, -1}, set.All(4))
	tells(t, []kind{parts(1, 0, 1, 0), parts(0, 0, -1, -1)}, []int{1, 0, 0, -1}, set.All(4))
	// 3 may stand for 0 or 1 or 2, each of whom may go to the second one, or but one of them may.
	three := kind{Tag: api.Trunc, N: 4, A: 3, Inner: []kind{free(4)}}
	tells(t, []kind{three, parts(0, 0, 0, -1)}, []int{1, 0, 0, 0}, nil)
	tells(t, []kind{three, parts(-1, 0, 0, -1)}, []int{0, 1, 0, 0}, nil)
	tells(t, []kind{three, parts(-1, -1, 0, -1)}, []int{0, 0, 1, 0}, nil)
	// Where 0 may go, of the other ones: to the first one of these.
	tells(t, []kind{parts(0, 0), parts(0, -1), parts(0, -1)}, []int{1, 0}, nil)
	tells(t, []kind{parts(0, 0), parts(-1, -1), parts(0, -1)}, []int{2, 0}, nil)
	tells(t, []kind{parts(-1, -1), parts(0, 0), parts(-1, -1), parts(0, -1), parts(0, -1)}, []int{3, 1}, nil)
}

func TestShorterIsFirst(t *testing.T) {
	// 3 must go by 0 and 1, and 4 by 2 alone; in the third one there is room for one of 1 and 2. 4 goes first.
	first, second, third := parts(0, -1, 1, 0, 1), parts(0, 0, -1, -1, -1), parts(-1, 0, 0, -1, -1)
	tells(t, []kind{first, second, third}, []int{0, 1, 2, -1, 0}, set.All(5))
}

func TestNotOnesOwn(t *testing.T) {
	// 0 may stay where it is, and 1 stands for it nowhere: neither is a way.
	tells(t, []kind{parts(0, 0), parts(-1, -1)}, []int{0, -1}, []int{0, 1})
	// 3 stands for 0 alone, who would stand for 1 and 2 in their own class: these are not come to.
	tells(t, []kind{parts(0, 1, 2, 0)}, []int{0, 0, 0, -1}, []int{0, 3})
	tells(t, []kind{parts(0, 1, 2, 0), parts(-1, 0, 0, -1)}, []int{0, 0, 0, -1}, []int{0, 3})
	// 4 stands for 0, and 0 in the second one for 2: 1 and 3 are not come to.
	tells(t, []kind{parts(0, 1, 0, 1, 0), parts(0, 1, 0, 1, -1)}, []int{0, 0, 1, 1, -1}, []int{0, 2, 4})
}

func TestOrder(t *testing.T) {
	c, d, e := graph(), parts(0, 0, 0, 1, 1, 2), kind{N: 6, A: 1}
	tells(t, []kind{c, d, e}, []int{0, 0, 1, 1, 0, 0}, nil)
	tells(t, []kind{c, e, d}, []int{0, 0, 1, 2, 0, 0}, nil)
	tells(t, []kind{d, c, e}, []int{0, 1, 1, 0, 1, 0}, nil)
	tells(t, []kind{d, e, c}, []int{0, 1, 2, 0, 2, 0}, nil)
	tells(t, []kind{e, c, d}, []int{0, 1, 1, 2, 1, 1}, nil)
	tells(t, []kind{e, d, c}, []int{0, 1, 2, 1, 2, 1}, nil)
}

func TestLeft(t *testing.T) {
	// Nobody is left, or all of a circle but its own tree, or those that are independent nowhere.
	circle := kind{Tag: api.Graph, N: 3, A: 3, List: lists{{0, 1}, {1, 2}, {2, 0}}}
	tells(t, times(2, circle), []int{0, 0, 1}, nil)
	tells(t, times(1, circle), []int{0, 0, -1}, set.All(3))
	tells(t, times(8, kind{Tag: api.Graph, N: 3, A: 2, List: lists{{0, 0}, {0, 1}, {1, 1}}}), []int{-1, 0, -1}, []int{0, 2})
	// Five edges between two vertices, one between two others, one at one vertex: three of the five have a class.
	five := kind{Tag: api.Graph, N: 7, A: 4, List: lists{{0, 1}, {1, 0}, {2, 3}, {0, 1}, {3, 3}, {0, 1}, {1, 0}}}
	tells(t, times(3, five), []int{0, 1, 0, 2, -1, -1, -1}, []int{0, 1, 3, 4, 5, 6})
	tells(t, times(5, five), []int{0, 1, 0, 2, -1, 3, 4}, []int{4})
	tells(t, times(4, five), []int{0, 1, 0, 2, -1, 3, -1}, []int{0, 1, 3, 4, 5, 6})
}

func TestEight(t *testing.T) {
	for many := 1; many <= 8; many++ {
		l := make([]kind, many)
		for k := range l {
			// Matroid k takes element k alone.
			part := slices.Repeat([]int{-1}, 9)
			part[k] = 0
			l[k] = parts(part...)
		}
		of := slices.Repeat([]int{-1}, 9)
		for k := range many {
			of[k] = k
		}
		tells(t, l, of, set.All(9)[many:])
		slices.Reverse(l)
		slices.Reverse(of[:many])
		for x := range many {
			of[x] = many - 1 - x
		}
		tells(t, l, of, set.All(9)[many:])
	}
	// Each takes one, and the last ones are left.
	tells(t, times(8, kind{N: 10, A: 1}), []int{0, 1, 2, 3, 4, 5, 6, 7, -1, -1}, set.All(10))
}

// row tells two matroids of elements in a row: of each two neighbours one may be taken, in turn by the first and by the
// second matroid. The first element has no room in the second one; if the row is shut, nor has the last one.
func row(l []int, shut bool) []kind {
	a, b := make([]int, len(l)), make([]int, len(l))
	for i, x := range l {
		a[x], b[x] = i/2, (i+1)/2
	}
	b[l[0]] = -1
	if shut {
		b[l[len(l)-1]] = -1
	}
	return []kind{parts(a...), parts(b...)}
}

// late tells twice so many elements in a row: the last one at its start, behind it in turn one of the first half, and one
// of the others. The first half has the first class at once, the others the second one, and nothing is left for the last one.
func late(many int) []int {
	l := []int{2*many - 1}
	for i := range many {
		l = append(l, i)
		if i < many-1 {
			l = append(l, many+i)
		}
	}
	return l
}

func TestLongWays(t *testing.T) {
	for many := 1; many <= 12; many++ {
		l := late(many)
		// Those at odd places are taken first, then those between; at last each takes the class that the next one had.
		tells(t, row(l, false), inClass(2*many, set.All(many), 1, 0), nil)
		of := inClass(2*many, set.All(many), 0, 1)
		of[2*many-1] = -1
		tells(t, row(l, true), of, set.All(2*many))
	}
}
