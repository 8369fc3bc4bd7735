package matroid_test

import (
	"math"
	"slices"
	"testing"

	"greenwood/api"
	"greenwood/matroid"
)

type (
	kind  = api.Matroid
	lists = [][]int
	inner = []api.Matroid
)

const (
	least    = math.MinInt
	greatest = math.MaxInt
)

// One matroid of each kind.
var (
	uniform  = kind{N: 3, A: 2}
	graph    = kind{Tag: api.Graph, N: 4, A: 3, List: lists{{0, 1}, {2, 1}, {2, 0}, {1, 1}}}
	parts    = kind{Tag: api.Part, N: 4, A: 3, List: lists{{0, 2, 0, 1}, {1, 64, 0}}}
	trans    = kind{Tag: api.Trans, N: 3, A: 2, List: lists{{0}, {0, 1}, {}}}
	linear   = kind{Tag: api.Linear, N: 3, A: 2, B: 5, List: lists{{0, 4}, {1, 1}, {2, 3}}}
	restrict = kind{Tag: api.Restrict, N: 2, List: lists{{0, 3}}, Inner: inner{graph}}
	contract = kind{Tag: api.Contract, N: 3, List: lists{{1}}, Inner: inner{graph}}
	trunc    = kind{Tag: api.Trunc, N: 4, A: 1, Inner: inner{parts}}
	dual     = kind{Tag: api.Dual, N: 3, Inner: inner{linear}}
	sum      = kind{Tag: api.Sum, N: 10, Inner: inner{graph, trans, uniform}}
)

// kinds tells one matroid of each kind.
func kinds() []kind {
	return []kind{uniform, graph, parts, trans, linear, restrict, contract, trunc, dual, sum}
}

// free tells a matroid of so many elements, all of them independent.
func free(n int) kind { return kind{N: n, A: n} }

// times tells a list of one matroid, so many times.
func times(many int, m kind) inner { return slices.Repeat(inner{m}, many) }

// wrapped tells a matroid with so many others around it.
func wrapped(m kind, many int) kind {
	for range many {
		m = kind{Tag: api.Dual, N: m.N, Inner: inner{m}}
	}
	return m
}

// checks holds what Check tells against what is wanted.
func checks(t *testing.T, m kind, want api.Errno) {
	t.Helper()
	if got := matroid.Check(m); got != want {
		t.Errorf("Check(%v): %d, want %d", m, got, want)
	}
}

// may holds that each of these may be.
func may(t *testing.T, l ...kind) {
	t.Helper()
	for _, m := range l {
		checks(t, m, api.OK)
	}
}

// mayNot holds that none of these may be, not even deeper, and that each tells no Image.
func mayNot(t *testing.T, l ...kind) {
	t.Helper()
	for _, m := range l {
		checks(t, m, api.ErrMatroid)
		checks(t, kind{Tag: api.Dual, N: m.N, Inner: inner{m}}, api.ErrMatroid)
		checks(t, kind{Tag: api.Sum, N: m.N + 3, Inner: inner{uniform, m}}, api.ErrMatroid)
		noImage(t, m, nil)
		noImage(t, m, []int{0})
	}
}

// noImage holds that no Image is told.
func noImage(t *testing.T, m kind, s []int) {
	t.Helper()
	if got, ok := matroid.Image(m, s); ok || len(got) != 0 {
		t.Errorf("Image(%v, %v): %v, %v", m, s, got, ok)
	}
}

// image holds the Image of a set against the one that is wanted.
func image(t *testing.T, m kind, s, want []int) {
	t.Helper()
	if got, ok := matroid.Image(m, s); !ok || !slices.Equal(got, want) {
		t.Errorf("Image(%v, %v): %v, %v, want %v", m, s, got, ok, want)
	}
}

func TestEachKind(t *testing.T) {
	for tag, m := range kinds() {
		if m.Tag != tag {
			t.Fatalf("kind %d has tag %d", tag, m.Tag)
		}
		may(t, m)
	}
	may(t, kind{})
}

func TestTags(t *testing.T) {
	for _, tag := range []int{least, -1, api.Tags, api.Tags + 1, 12, 256, greatest} {
		mayNot(t, kind{Tag: tag})
		for _, m := range kinds() {
			m.Tag = tag
			mayNot(t, m)
		}
	}
	for _, tag := range []int{api.Graph, api.Part, api.Linear, api.Restrict, api.Contract, api.Trunc, api.Dual, api.Sum} {
		mayNot(t, kind{Tag: tag})
	}
	may(t, kind{Tag: api.Uniform}, kind{Tag: api.Trans})
}

// numbered tells matroids, one of each kind but Sum, of n elements and the number a, where both have their place.
func numbered(n, a int) []kind {
	l := lists{}
	none := make(lists, max(0, min(n, 70)))
	zeros := make([]int, max(0, min(n, 70)))
	for range zeros {
		l = append(l, []int{0, 0})
	}
	cols := make(lists, len(none))
	for i := range cols {
		cols[i] = make([]int, max(0, min(a, 70)))
	}
	return []kind{
		{Tag: api.Graph, N: n, A: a, List: l},
		{Tag: api.Part, N: n, A: a, List: lists{zeros, make([]int, max(0, min(a, 70)))}},
		{Tag: api.Trans, N: n, A: a, List: none},
		{Tag: api.Linear, N: n, A: a, B: 2, List: cols},
		{Tag: api.Trunc, N: n, A: a, Inner: inner{free(n)}},
	}
}

func TestHowMany(t *testing.T) {
	for _, n := range []int{0, 1, 63, 64} {
		for _, a := range []int{1, 2, 63, 64} {
			may(t, numbered(n, a)...)
		}
		may(t, free(n), kind{N: n}, wrapped(free(n), 1), kind{Tag: api.Sum, N: n, Inner: inner{free(n)}})
		may(t, kind{Tag: api.Restrict, List: lists{nil}, Inner: inner{free(n)}})
		may(t, kind{Tag: api.Contract, N: n, List: lists{nil}, Inner: inner{free(n)}})
	}
	for _, n := range []int{least, -64, -2, -1, 65, 66, 1 << 32, greatest} {
		mayNot(t, numbered(n, 1)...)
		mayNot(t, free(n), kind{N: n}, wrapped(free(n), 1), kind{Tag: api.Sum, N: n, Inner: inner{free(n)}})
		mayNot(t, kind{Tag: api.Restrict, N: n, List: lists{nil}, Inner: inner{free(n)}})
		mayNot(t, kind{Tag: api.Contract, N: n, List: lists{nil}, Inner: inner{free(n)}})
	}
}

func TestNumbers(t *testing.T) {
	for _, a := range []int{least, -64, -2, -1, 65, 66, 1 << 32, greatest} {
		for _, n := range []int{0, 1, 64} {
			mayNot(t, numbered(n, a)...)
		}
		mayNot(t, kind{A: a}, kind{N: 64, A: a})
	}
	// Of A 0 a graph has no vertex, and a class none of the elements.
	for i, m := range numbered(0, 0) {
		checks(t, m, []api.Errno{api.ErrMatroid, api.OK, api.OK, api.OK, api.OK}[i])
	}
	for i, m := range numbered(1, 0) {
		checks(t, m, []api.Errno{api.ErrMatroid, api.ErrMatroid, api.OK, api.OK, api.OK}[i])
	}
}

func TestUniform(t *testing.T) {
	for n := range 65 {
		may(t, kind{N: n}, kind{N: n, A: n})
		mayNot(t, kind{N: n, A: n + 1}, kind{N: n, A: -1})
	}
}

func TestGraph(t *testing.T) {
	of := func(a int, l ...[]int) kind { return kind{Tag: api.Graph, N: len(l), A: a, List: l} }
	// The same vertex twice, the same edge twice, and no edge.
	may(t, of(1), of(64), of(1, []int{0, 0}), of(2, []int{1, 0}, []int{0, 1}, []int{1, 0}), of(64, []int{63, 0}, []int{63, 63}))
	mayNot(t, of(0), of(0, []int{0, 0}), of(-1), of(65))
	for _, end := range []int{least, -1, 3, 4, 64, greatest} {
		mayNot(t, of(3, []int{0, end}), of(3, []int{end, 0}), of(3, []int{end, end}), of(3, []int{0, 1}, []int{2, end}))
	}
	for _, edge := range [][]int{nil, {}, {0}, {0, 0, 0}, {0, 1, 2, 0}} {
		mayNot(t, of(3, edge), of(3, []int{0, 1}, edge), of(3, edge, []int{0, 1}))
	}
	for _, n := range []int{0, 1, 3, 4} {
		m := of(3, []int{0, 1}, []int{1, 2})
		m.N = n
		mayNot(t, m)
	}
}

func TestPart(t *testing.T) {
	of := func(n, a int, l ...[]int) kind { return kind{Tag: api.Part, N: n, A: a, List: l} }
	may(t, of(0, 0, nil, nil), of(0, 1, nil, []int{5}), of(3, 1, []int{0, 0, 0}, []int{2}), of(1, 3, []int{2}, []int{0, 64, 1}))
	for _, most := range []int{least, -1, 65, 66, greatest} {
		mayNot(t, of(1, 1, []int{0}, []int{most}), of(1, 2, []int{0}, []int{1, most}), of(0, 1, nil, []int{most}))
	}
	for _, most := range []int{0, 1, 63, 64} {
		may(t, of(1, 1, []int{0}, []int{most}))
	}
	for _, class := range []int{least, -1, 2, 3, 64, greatest} {
		mayNot(t, of(1, 2, []int{class}, []int{1, 1}), of(2, 2, []int{1, class}, []int{1, 1}))
	}
	// No list, one, three.
	mayNot(t, of(0, 0), of(0, 0, nil), of(0, 0, nil, nil, nil))
	mayNot(t, of(2, 2), of(2, 2, []int{0, 0}), of(2, 2, []int{0, 0}, []int{1, 1}, nil), of(2, 2, []int{0, 0}, []int{1, 1}, []int{1, 1}))
	// Lists of other lengths than N and A.
	mayNot(t, of(2, 2, []int{0}, []int{1, 1}), of(2, 2, []int{0, 1, 1}, []int{1, 1}), of(2, 2, nil, []int{1, 1}))
	mayNot(t, of(2, 2, []int{0, 0}, []int{1}), of(2, 2, []int{0, 0}, []int{1, 1, 1}), of(2, 2, []int{0, 0}, nil))
	mayNot(t, of(2, 1, []int{0}, []int{1, 1}), of(1, 2, []int{0, 0}, []int{1}), of(1, 0, []int{0}, nil))
}

func TestTrans(t *testing.T) {
	of := func(n, a int, l ...[]int) kind { return kind{Tag: api.Trans, N: n, A: a, List: l} }
	may(t, of(0, 0), of(0, 64), of(2, 0, nil, nil), of(2, 3, []int{0, 1, 2}, nil), of(1, 64, []int{0, 63}))
	// No sets of those on the right.
	mayNot(t, of(1, 3, []int{3}), of(1, 3, []int{-1}), of(1, 3, []int{1, 0}), of(1, 3, []int{1, 1}), of(1, 3, []int{0, 1, 2, 3}), of(1, 0, []int{0}), of(2, 3, []int{0}, []int{3}))
	mayNot(t, of(0, 3, nil), of(1, 3), of(1, 3, nil, nil), of(3, 3, nil, nil))
}

func TestLinear(t *testing.T) {
	of := func(n, a, b int, l ...[]int) kind { return kind{Tag: api.Linear, N: n, A: a, B: b, List: l} }
	may(t, of(0, 0, 2), of(0, 64, 2), of(2, 0, 3, nil, nil), of(1, 1, 1<<31-1, []int{1<<31 - 2}), of(2, 2, 2, []int{1, 0}, []int{1, 1}))
	// No prime, even of no columns; or one that is too great.
	for _, p := range []int{least, -5, -2, -1, 0, 1, 4, 9, 91, 1<<31 + 11, greatest} {
		mayNot(t, of(0, 0, p), of(0, 3, p), of(1, 1, p, []int{0}))
	}
	mayNot(t, of(1, 2, 5, []int{0}), of(1, 2, 5, []int{0, 0, 0}), of(1, 2, 5, nil), of(1, 0, 5, []int{0}), of(2, 1, 5, []int{0}, nil))
	mayNot(t, of(1, 2, 5, []int{0, 5}), of(1, 2, 5, []int{-1, 0}), of(1, 1, 1<<31-1, []int{1<<31 - 1}), of(2, 1, 5, []int{0}, []int{7}))
	mayNot(t, of(0, 1, 5, []int{0}), of(2, 1, 5, []int{0}), of(1, 1, 5))
}

func TestRestrictAndContract(t *testing.T) {
	for _, tag := range []int{api.Restrict, api.Contract} {
		of := func(n int, s []int, in ...kind) kind {
			return kind{Tag: tag, N: n, List: lists{s}, Inner: in}
		}
		// left is how many elements there are if the list has so many of four.
		left := func(has int) int {
			if tag == api.Restrict {
				return has
			}
			return 4 - has
		}
		for _, s := range [][]int{nil, {}, {0}, {3}, {1, 2}, {0, 2, 3}, {0, 1, 2, 3}} {
			n := left(len(s))
			may(t, of(n, s, graph))
			mayNot(t, of(n-1, s, graph), of(n+1, s, graph), of(n, s), of(n, s, graph, graph), of(n, s, graph, free(0)))
			if len(s) != 2 {
				mayNot(t, of(4-n, s, graph))
			}
		}
		// They don't rise, one is there twice, one there is not.
		for _, s := range [][]int{{1, 0}, {2, 1}, {0, 3, 2}, {1, 1}, {0, 0}, {0, 2, 2}, {4}, {-1}, {0, 4}, {-1, 0}, {1, 5}, {least}, {greatest}, {0, 1, 2, 4}, {0, 1, 2, 3, 4}} {
			mayNot(t, of(left(len(s)), s, graph), of(len(s), s, graph))
		}
		may(t, of(0, nil, free(0)))
		mayNot(t, of(0, []int{0}, free(0)), of(1, []int{0}, free(0)), of(-1, []int{0}, free(0)))
		// No list, and two.
		for n := range 5 {
			mayNot(t, kind{Tag: tag, N: n, Inner: inner{graph}})
			mayNot(t, kind{Tag: tag, N: n, List: lists{{0, 1}, {2, 3}}, Inner: inner{graph}})
			mayNot(t, kind{Tag: tag, N: n, List: lists{{0, 1}, {}}, Inner: inner{graph}})
		}
	}
	may(t, kind{Tag: api.Restrict, N: 64, List: lists{rising(64)}, Inner: inner{free(64)}})
	may(t, kind{Tag: api.Contract, N: 0, List: lists{rising(64)}, Inner: inner{free(64)}})
	mayNot(t, kind{Tag: api.Restrict, N: 64, List: lists{rising(64)}, Inner: inner{free(65)}})
	mayNot(t, kind{Tag: api.Contract, N: 64, List: lists{{0}}, Inner: inner{free(65)}})
	mayNot(t, kind{Tag: api.Contract, N: 1, List: lists{rising(64)}, Inner: inner{free(65)}})
}

// rising tells 0 to n - 1.
func rising(n int) []int {
	l := make([]int, n)
	for i := range l {
		l[i] = i
	}
	return l
}

func TestTruncAndDual(t *testing.T) {
	for _, in := range kinds() {
		trunc := kind{Tag: api.Trunc, N: in.N, Inner: inner{in}}
		dual := kind{Tag: api.Dual, N: in.N, Inner: inner{in}}
		for _, a := range []int{0, 1, in.N, in.N + 1, 64} {
			trunc.A = a
			may(t, trunc)
		}
		may(t, dual)
		for _, n := range []int{in.N - 1, in.N + 1, 0, 64} {
			trunc.N, dual.N = n, n
			mayNot(t, trunc, dual)
		}
	}
	for _, l := range []inner{nil, {}, {graph, graph}, {graph, free(0)}, {free(0), graph}, {free(2), free(2)}, times(8, free(0))} {
		mayNot(t, kind{Tag: api.Trunc, N: 4, A: 1, Inner: l}, kind{Tag: api.Dual, N: 4, Inner: l})
		mayNot(t, kind{Tag: api.Trunc, Inner: l}, kind{Tag: api.Dual, Inner: l})
	}
}

func TestSum(t *testing.T) {
	of := func(n int, in ...kind) kind { return kind{Tag: api.Sum, N: n, Inner: in} }
	for many := 1; many <= 8; many++ {
		may(t, of(0, times(many, free(0))...), of(3*many, times(many, uniform)...), of(8*many, times(many, free(8))...))
		mayNot(t, of(3*many-1, times(many, uniform)...), of(3*many+1, times(many, uniform)...), of(3, times(many+1, uniform)...))
	}
	may(t, of(64, free(64)), of(64, free(63), free(1)), of(64, free(64), free(0)), of(4, graph), of(7, graph, trans), of(7, trans, graph))
	mayNot(t, of(0), of(1), of(3), of(27, times(9, uniform)...), of(0, times(9, free(0))...), of(24, times(9, uniform)...), of(0, times(100, free(0))...))
	// More than 64 together.
	mayNot(t, of(65, free(64), free(1)), of(64, free(64), free(1)), of(65, free(33), free(32)), of(72, times(8, free(9))...), of(64, times(8, free(9))...))
	// Together they come to N, as below none is taken off, or as they wrap round.
	mayNot(t, of(3, free(-1), free(4)), of(0, free(-1), free(1)), of(0, kind{N: least}, kind{N: least}), of(4, kind{N: greatest}, kind{N: greatest}, free(6)))
	mayNot(t, of(0, times(4, kind{N: 1 << 62})...), of(64, append(times(4, kind{N: 1 << 62}), free(64))...))
}

func TestWhatTheKindDoesNotName(t *testing.T) {
	for _, m := range kinds() {
		named := [...]struct{ a, b, lists, within bool }{
			api.Uniform: {a: true}, api.Graph: {a: true, lists: true}, api.Part: {a: true, lists: true},
			api.Trans: {a: true, lists: true}, api.Linear: {a: true, b: true, lists: true},
			api.Restrict: {lists: true, within: true}, api.Contract: {lists: true, within: true},
			api.Trunc: {a: true, within: true}, api.Dual: {within: true}, api.Sum: {within: true},
		}[m.Tag]
		for _, x := range []int{least, -1, 1, 2, 64, greatest} {
			if other := m; !named.a {
				other.A = x
				mayNot(t, other)
			}
			if other := m; !named.b {
				other.B = x
				mayNot(t, other)
			}
		}
		for _, l := range []lists{{nil}, {{}}, {{0}}, {{0}, {1}}, make(lists, m.N)} {
			if other := m; !named.lists {
				other.List = l
				mayNot(t, other)
			}
		}
		for _, in := range kinds() {
			if other := m; !named.within {
				other.Inner = inner{in}
				mayNot(t, other)
			}
		}
	}
}

func TestInnerThatMayNotBe(t *testing.T) {
	bad := kind{N: 4, A: 5}
	for _, in := range []kind{bad, {Tag: -1, N: 4}, {Tag: 10, N: 4}, {N: 4, B: 1}, {Tag: api.Dual, N: 4}} {
		for _, in := range []kind{in, wrapped(in, 1)} {
			mayNot(t, kind{Tag: api.Restrict, N: 2, List: lists{{0, 3}}, Inner: inner{in}}, kind{Tag: api.Contract, N: 3, List: lists{{1}}, Inner: inner{in}})
			mayNot(t, kind{Tag: api.Trunc, N: 4, A: 1, Inner: inner{in}}, kind{Tag: api.Dual, N: 4, Inner: inner{in}})
		}
		checks(t, wrapped(in, 3), api.ErrMatroid)
	}
	for at := range 8 {
		l := times(8, uniform)
		l[at] = kind{N: 3, A: 4}
		mayNot(t, kind{Tag: api.Sum, N: 24, Inner: l})
	}
}

func TestNilAndEmpty(t *testing.T) {
	for _, l := range []lists{nil, {}} {
		for _, in := range []inner{nil, {}} {
			may(t, kind{N: 2, A: 1, List: l, Inner: in}, kind{Tag: api.Graph, A: 1, List: l, Inner: in}, kind{Tag: api.Trans, List: l, Inner: in}, kind{Tag: api.Linear, B: 2, List: l, Inner: in})
			mayNot(t, kind{Tag: api.Sum, List: l, Inner: in}, kind{Tag: api.Dual, List: l, Inner: in}, kind{Tag: api.Trunc, List: l, Inner: in})
		}
		may(t, kind{Tag: api.Dual, N: 3, List: l, Inner: inner{uniform}}, kind{Tag: api.Trunc, N: 3, List: l, Inner: inner{uniform}}, kind{Tag: api.Sum, N: 3, List: l, Inner: inner{uniform}})
	}
	for _, s := range [][]int{nil, {}} {
		may(t, kind{Tag: api.Part, List: lists{s, s}}, kind{Tag: api.Trans, N: 2, List: lists{s, s}}, kind{Tag: api.Linear, N: 2, B: 2, List: lists{s, s}})
		for _, in := range []inner{nil, {}} {
			m := kind{Tag: api.Part, N: 1, A: 1, List: lists{{0}, {1}}, Inner: in}
			may(t, m)
			noImage(t, m, s)
		}
		of := kind{Tag: api.Restrict, List: lists{s}, Inner: inner{graph}}
		may(t, of)
		image(t, of, s, nil)
		of = kind{Tag: api.Contract, N: 4, List: lists{s}, Inner: inner{graph}}
		may(t, of)
		image(t, of, s, nil)
		image(t, of, []int{1, 3}, []int{1, 3})
	}
}
