package matroid_test

import (
	"testing"

	"greenwood/api"
	"greenwood/matroid"
)

// deep holds a depth against the one that is wanted, and what Check tells of it.
func deep(t *testing.T, m kind, want int, e api.Errno) {
	t.Helper()
	if got, told := matroid.Deep(m), matroid.Check(m); got != want || told != e {
		t.Errorf("Deep: %d, want %d; Check: %d, want %d", got, want, told, e)
	}
}

func TestDepths(t *testing.T) {
	for _, m := range kinds() {
		own := 2
		if m.Tag < api.Restrict {
			own = 1
		}
		for around := range 12 {
			want, e := min(own+around, 5), api.OK
			if want == 5 {
				e = api.ErrDeep
			}
			deep(t, wrapped(m, around), want, e)
		}
	}
	deep(t, wrapped(graph, 3), 4, api.OK)
	deep(t, wrapped(graph, 4), 5, api.ErrDeep)
	deep(t, wrapped(graph, 1<<16), 5, api.ErrDeep)
}

func TestDepthByEachKindAround(t *testing.T) {
	around := []func(kind) kind{
		func(m kind) kind { return kind{Tag: api.Restrict, N: m.N, List: lists{rising(m.N)}, Inner: inner{m}} },
		func(m kind) kind { return kind{Tag: api.Contract, N: m.N, List: lists{nil}, Inner: inner{m}} },
		func(m kind) kind { return kind{Tag: api.Trunc, N: m.N, A: 2, Inner: inner{m}} },
		func(m kind) kind { return kind{Tag: api.Dual, N: m.N, Inner: inner{m}} },
		func(m kind) kind { return kind{Tag: api.Sum, N: m.N, Inner: inner{m}} },
	}
	for _, f := range around {
		for _, g := range around {
			for _, h := range around {
				m := f(g(h(uniform)))
				deep(t, m, 4, api.OK)
				for _, k := range around {
					deep(t, k(m), 5, api.ErrDeep)
					deep(t, k(k(m)), 5, api.ErrDeep)
				}
			}
		}
	}
}

func TestDepthOfTheDeepest(t *testing.T) {
	for own := range 3 {
		for at := range 8 {
			l := times(8, uniform)
			l[at] = wrapped(uniform, own)
			deep(t, kind{Tag: api.Sum, N: 24, Inner: l}, own+2, api.OK)
		}
	}
	deep(t, kind{Tag: api.Sum, N: 12, Inner: inner{wrapped(uniform, 2), wrapped(uniform, 1), wrapped(uniform, 2), uniform}}, 4, api.OK)
	for at := range 8 {
		l := times(8, uniform)
		l[at] = wrapped(uniform, 3)
		deep(t, kind{Tag: api.Sum, N: 24, Inner: l}, 5, api.ErrDeep)
	}
}

func TestDepthOfWhatHasNoneWithin(t *testing.T) {
	for _, tag := range []int{api.Restrict, api.Contract, api.Trunc, api.Dual, api.Sum} {
		deep(t, kind{Tag: tag}, 1, api.ErrMatroid)
		deep(t, kind{Tag: tag, Inner: inner{}}, 1, api.ErrMatroid)
	}
	// Of other tags it does not matter what is within.
	for _, tag := range []int{least, -5, -1, api.Uniform, api.Graph, api.Part, api.Trans, api.Linear, api.Tags, 11, 100, greatest} {
		for around := range 7 {
			m := kind{Tag: tag, N: 3, Inner: inner{wrapped(uniform, around)}}
			deep(t, m, 1, api.ErrMatroid)
			deep(t, wrapped(m, 3), 4, api.ErrMatroid)
			deep(t, wrapped(m, 4), 5, api.ErrDeep)
		}
	}
}

func TestTooDeepComesFirst(t *testing.T) {
	far := wrapped(uniform, 3)
	for _, bad := range []kind{
		{Tag: api.Dual, N: -1, Inner: inner{far}},
		{Tag: api.Dual, N: 65, Inner: inner{far}},
		{Tag: api.Dual, N: 2, Inner: inner{far}},
		{Tag: api.Dual, N: 3, A: 1, Inner: inner{far}},
		{Tag: api.Dual, N: 3, B: 1, Inner: inner{far}},
		{Tag: api.Dual, N: 3, List: lists{nil}, Inner: inner{far}},
		{Tag: api.Dual, N: 3, Inner: inner{far, far}},
		{Tag: api.Dual, N: 3, Inner: inner{uniform, {Tag: 12}, far}},
		{Tag: api.Trunc, N: 3, A: 65, Inner: inner{far}},
		{Tag: api.Restrict, N: 3, Inner: inner{far}},
		{Tag: api.Contract, N: 3, List: lists{{1, 1}}, Inner: inner{far}},
		{Tag: api.Sum, N: 3, Inner: append(times(20, uniform), far)},
		wrapped(kind{Tag: -1}, 4),
		wrapped(kind{N: 65}, 4),
		wrapped(kind{N: 1, A: 2}, 4),
		wrapped(kind{N: least, A: greatest}, 1<<16),
	} {
		deep(t, bad, 5, api.ErrDeep)
		noImage(t, bad, nil)
		noImage(t, bad, []int{0})
	}
}

func TestWhatHasItselfWithin(t *testing.T) {
	for tag := api.Restrict; tag < api.Tags; tag++ {
		for _, many := range []int{1, 8, 1000} {
			l := make(inner, many)
			for i := range l {
				l[i] = kind{Tag: tag, Inner: l}
			}
			deep(t, l[0], 5, api.ErrDeep)
			if got, ok := matroid.Image(l[0], nil); ok || len(got) != 0 {
				t.Errorf("Image of tag %d: %v, %v", tag, got, ok)
			}
			// Only the last one goes on.
			for i := range l[1:] {
				l[i] = kind{}
			}
			deep(t, l[many-1], 5, api.ErrDeep)
			deep(t, kind{Inner: l}, 1, api.ErrMatroid)
			deep(t, kind{Tag: api.Tags, Inner: l}, 1, api.ErrMatroid)
		}
	}
}

func TestManyWithin(t *testing.T) {
	few := kind{Tag: api.Sum, Inner: times(8, kind{Tag: api.Sum, Inner: times(8, kind{Tag: api.Sum, Inner: times(8, kind{})})})}
	deep(t, few, 4, api.OK)
	deep(t, kind{Tag: api.Sum, Inner: times(8, few)}, 5, api.ErrDeep)
	many := kind{Tag: api.Sum, Inner: times(100, kind{Tag: api.Sum, Inner: times(100, kind{Tag: api.Dual, Inner: times(100, kind{})})})}
	deep(t, many, 4, api.ErrMatroid)
	deep(t, kind{Tag: api.Sum, Inner: times(100000, kind{})}, 2, api.ErrMatroid)
	deep(t, kind{Tag: api.Sum, Inner: append(times(100000, kind{}), wrapped(kind{}, 3))}, 5, api.ErrDeep)
}
