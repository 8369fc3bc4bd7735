package order_test

import (
	"math"
	"slices"
	"testing"

	"greenwood/order"
)

const (
	least    = math.MinInt
	greatest = math.MaxInt
)

// pair is a key and an id.
type pair [2]int

// filled tells a queue that pairs were put into, in order.
func filled(t *testing.T, l ...pair) *order.Queue {
	t.Helper()
	q := order.New()
	for i, p := range l {
		holds(t, q, i)
		q.Push(p[0], p[1])
	}
	holds(t, q, len(l))
	return q
}

// holds holds how many pairs there are against how many are wanted.
func holds(t *testing.T, q *order.Queue, want int) {
	t.Helper()
	if n := q.Len(); n != want {
		t.Fatalf("Len(): %d, want %d", n, want)
	}
}

// gives holds the pair that comes out against the one that is wanted.
func gives(t *testing.T, q *order.Queue, want pair) {
	t.Helper()
	n := q.Len()
	if key, id, ok := q.Pop(); !ok || key != want[0] || id != want[1] {
		t.Fatalf("Pop(): %d, %d, %t, want %v", key, id, ok, want)
	}
	holds(t, q, n-1)
}

// empty holds that nothing comes out, however often it is asked for.
func empty(t *testing.T, q *order.Queue) {
	t.Helper()
	for range 3 {
		holds(t, q, 0)
		if key, id, ok := q.Pop(); key != 0 || id != 0 || ok {
			t.Fatalf("Pop() of an empty queue: %d, %d, %t", key, id, ok)
		}
	}
	holds(t, q, 0)
}

// givesAll holds what comes out, to the last, against what is wanted.
func givesAll(t *testing.T, q *order.Queue, want ...pair) {
	t.Helper()
	holds(t, q, len(want))
	for _, p := range want {
		gives(t, q, p)
	}
	empty(t, q)
}

func TestNewIsEmpty(t *testing.T) {
	if order.New() == nil {
		t.Fatal("New(): nil")
	}
	empty(t, order.New())
}

func TestNotMadeByNew(t *testing.T) {
	var q order.Queue
	empty(t, &q)
	q.Push(2, 1)
	q.Push(1, 2)
	givesAll(t, &q, pair{1, 2}, pair{2, 1})
}

func TestOnePair(t *testing.T) {
	for _, key := range []int{0, 1, -1, 7, least, greatest} {
		for _, id := range []int{0, 1, -1, 7, least, greatest} {
			givesAll(t, filled(t, pair{key, id}), pair{key, id})
		}
	}
}

func TestKeys(t *testing.T) {
	cases := []struct{ in, want []pair }{
		// They rise, fall, are all the same, or neither.
		{[]pair{{1, 9}, {2, 8}, {3, 7}, {4, 6}}, []pair{{1, 9}, {2, 8}, {3, 7}, {4, 6}}},
		{[]pair{{4, 6}, {3, 7}, {2, 8}, {1, 9}}, []pair{{1, 9}, {2, 8}, {3, 7}, {4, 6}}},
		{[]pair{{5, 3}, {5, 1}, {5, 4}, {5, 2}}, []pair{{5, 1}, {5, 2}, {5, 3}, {5, 4}}},
		{[]pair{{5, 10}, {-3, 9}, {5, 8}, {0, 7}, {9, 6}, {-3, 5}}, []pair{{-3, 5}, {-3, 9}, {0, 7}, {5, 8}, {5, 10}, {9, 6}}},
		// The id counts among the same keys alone.
		{[]pair{{2, 0}, {1, 5}, {2, -1}, {1, 4}}, []pair{{1, 4}, {1, 5}, {2, -1}, {2, 0}}},
		{[]pair{{3, -9}, {-9, 3}}, []pair{{-9, 3}, {3, -9}}},
		// The same pair is as many as it was put in.
		{[]pair{{1, 1}, {1, 1}}, []pair{{1, 1}, {1, 1}}},
		{[]pair{{0, 0}, {0, 0}, {0, 0}}, []pair{{0, 0}, {0, 0}, {0, 0}}},
		{[]pair{{1, 2}, {0, 2}, {1, 2}, {1, 1}, {0, 2}}, []pair{{0, 2}, {0, 2}, {1, 1}, {1, 2}, {1, 2}}},
		// Below 0, in both places.
		{[]pair{{-1, -1}, {-1, -2}, {-2, -1}, {-2, 0}, {0, -5}}, []pair{{-2, -1}, {-2, 0}, {-1, -2}, {-1, -1}, {0, -5}}},
		// The least and the greatest numbers: no difference of two of them is told rightly.
		{[]pair{{greatest, 0}, {least, 0}, {0, 0}}, []pair{{least, 0}, {0, 0}, {greatest, 0}}},
		{[]pair{{0, greatest}, {0, least}, {0, 0}}, []pair{{0, least}, {0, 0}, {0, greatest}}},
		{[]pair{{least, 0}, {1, 0}}, []pair{{least, 0}, {1, 0}}},
		{[]pair{{greatest, 0}, {-2, 0}}, []pair{{-2, 0}, {greatest, 0}}},
		{[]pair{{4, least}, {4, 1}}, []pair{{4, least}, {4, 1}}},
		{[]pair{{4, greatest}, {4, -2}}, []pair{{4, -2}, {4, greatest}}},
		{[]pair{{greatest, greatest}, {greatest, least}, {least, greatest}, {least, least}}, []pair{{least, least}, {least, greatest}, {greatest, least}, {greatest, greatest}}},
		{[]pair{{greatest, 0}, {greatest - 1, 1}, {least + 1, 2}, {least, 3}}, []pair{{least, 3}, {least + 1, 2}, {greatest - 1, 1}, {greatest, 0}}},
	}
	for _, c := range cases {
		givesAll(t, filled(t, c.in...), c.want...)
	}
}

func TestPutInBetween(t *testing.T) {
	q := filled(t, pair{5, 0}, pair{3, 0})
	gives(t, q, pair{3, 0})
	q.Push(4, 0)
	q.Push(9, 0)
	gives(t, q, pair{4, 0})
	q.Push(-1, 0)
	gives(t, q, pair{-1, 0})
	q.Push(5, -1)
	q.Push(5, 1)
	givesAll(t, q, pair{5, -1}, pair{5, 0}, pair{5, 1}, pair{9, 0})
	// What was taken out may be put in again.
	q = filled(t, pair{1, 1}, pair{2, 2})
	for range 5 {
		gives(t, q, pair{1, 1})
		q.Push(1, 1)
	}
	givesAll(t, q, pair{1, 1}, pair{2, 2})
}

func TestEmptiedAndFilledAgain(t *testing.T) {
	q := order.New()
	for round := range 5 {
		for i := range 20 {
			q.Push(-i, round)
		}
		for i := range 20 {
			gives(t, q, pair{i - 19, round})
		}
		empty(t, q)
	}
	q.Push(8, 8)
	givesAll(t, q, pair{8, 8})
}

func TestTwoSideBySide(t *testing.T) {
	a, b := order.New(), order.New()
	a.Push(1, 10)
	holds(t, b, 0)
	b.Push(0, 20)
	a.Push(-1, 11)
	b.Push(1, 21)
	gives(t, a, pair{-1, 11})
	gives(t, b, pair{0, 20})
	a.Push(0, 12)
	holds(t, b, 1)
	givesAll(t, a, pair{0, 12}, pair{1, 10})
	givesAll(t, b, pair{1, 21})
	b.Push(3, 3)
	empty(t, a)
	givesAll(t, b, pair{3, 3})
}

func TestNil(t *testing.T) {
	var q *order.Queue
	empty(t, q)
	q.Push(1, 2)
	q.Push(least, greatest)
	empty(t, q)
	// What is put into nil is in no other queue.
	empty(t, order.New())
}

// places holds the places that Greatest tells against those that are wanted.
func places(t *testing.T, l, want []int) {
	t.Helper()
	if got := order.Greatest(l); !slices.Equal(got, want) {
		t.Fatalf("Greatest(%v): %v, want %v", l, got, want)
	}
}

// rising tells 0 to n - 1.
func rising(n int) []int {
	l := make([]int, n)
	for i := range l {
		l[i] = i
	}
	return l
}

// falling tells n - 1 to 0.
func falling(n int) []int {
	l := rising(n)
	slices.Reverse(l)
	return l
}

func TestExample(t *testing.T) {
	places(t, []int{5, 9, 5}, []int{1, 0, 2})
}

func TestGreatest(t *testing.T) {
	cases := []struct{ l, want []int }{
		{nil, nil},
		{[]int{}, nil},
		{[]int{0}, []int{0}},
		{[]int{-7}, []int{0}},
		{[]int{least}, []int{0}},
		{[]int{greatest}, []int{0}},
		{[]int{1, 2}, []int{1, 0}},
		{[]int{2, 1}, []int{0, 1}},
		{[]int{2, 2}, []int{0, 1}},
		{[]int{0, -1, 1}, []int{2, 0, 1}},
		{[]int{3, 1, 2, 3, 1, 2, 3}, []int{0, 3, 6, 2, 5, 1, 4}},
		{[]int{-3, -1, -2, -1}, []int{1, 3, 2, 0}},
		{[]int{least, greatest, 0}, []int{1, 2, 0}},
		{[]int{least, 1}, []int{1, 0}},
		{[]int{-2, greatest}, []int{1, 0}},
		{[]int{greatest, least, greatest, least}, []int{0, 2, 1, 3}},
		{[]int{least, least + 1, greatest - 1, greatest}, []int{3, 2, 1, 0}},
	}
	for _, c := range cases {
		places(t, c.l, c.want)
	}
}

func TestGreatestOfLongLists(t *testing.T) {
	for _, n := range []int{1, 2, 3, 11, 12, 13, 20, 21, 63, 64, 65, 1000, 100000} {
		places(t, rising(n), falling(n))
		places(t, falling(n), rising(n))
		places(t, make([]int, n), rising(n))
		places(t, slices.Repeat([]int{least}, n), rising(n))
		places(t, slices.Repeat([]int{greatest}, n), rising(n))
		// Two numbers in turn: first all the places of the one, then all those of the other.
		places(t, slices.Repeat([]int{1, 0}, n), append(each(0, 2*n), each(1, 2*n)...))
		places(t, slices.Repeat([]int{0, 1}, n), append(each(1, 2*n), each(0, 2*n)...))
	}
}

// each tells every second number from first on, below n.
func each(first, n int) []int {
	var l []int
	for i := first; i < n; i += 2 {
		l = append(l, i)
	}
	return l
}
