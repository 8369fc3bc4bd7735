package order_test

import (
	"slices"
	"testing"

	"greenwood/order"
)

// both are a queue, and what is in it.
type both struct {
	q *order.Queue
	l []pair
}

// before tells whether one pair comes out ahead of another.
func before(a, b pair) bool { return a[0] < b[0] || a[0] == b[0] && a[1] < b[1] }

func (b *both) push(p pair) {
	b.q.Push(p[0], p[1])
	b.l = append(b.l, p)
}

// pop holds what comes out against all that is in.
func (b *both) pop(t *testing.T) {
	t.Helper()
	if len(b.l) == 0 {
		empty(t, b.q)
		return
	}
	at := 0
	for i, p := range b.l {
		if before(p, b.l[at]) {
			at = i
		}
	}
	gives(t, b.q, b.l[at])
	b.l = slices.Delete(b.l, at, at+1)
}

// popAll holds what comes out, to the last.
func (b *both) popAll(t *testing.T) {
	t.Helper()
	for len(b.l) > 0 {
		b.pop(t)
	}
	empty(t, b.q)
}

// scattered tells a rule that scatters numbers.
func scattered() func(most int) int {
	seed := 1
	return func(most int) int {
		seed = (seed*1103515245 + 12345) % (1 << 31)
		return seed * most >> 31
	}
}

// turns does with a queue what digits say: to put one of four pairs in, or to take one out.
func turns(t *testing.T, digits, many int) {
	t.Helper()
	b := both{q: order.New()}
	for range many {
		if digits%5 == 4 {
			b.pop(t)
		} else {
			b.push(pair{digits % 5 / 2, digits % 5 % 2})
		}
		holds(t, b.q, len(b.l))
		digits /= 5
	}
	b.popAll(t)
}

func TestAllShortTurns(t *testing.T) {
	for many, all := 0, 1; many <= 7; many, all = many+1, all*5 {
		for digits := range all {
			turns(t, digits, many)
		}
	}
}

func TestAllOrdersOfSeven(t *testing.T) {
	permuted(rising(7), 0, func(l []int) {
		b := both{q: order.New()}
		for _, k := range l {
			// Three keys, with two or three ids each.
			b.push(pair{k % 3, -k})
		}
		b.popAll(t)
	})
}

// permuted calls do with a list in all orders of what is behind the first so many.
func permuted(l []int, first int, do func([]int)) {
	if first == len(l) {
		do(l)
		return
	}
	for i := first; i < len(l); i++ {
		l[first], l[i] = l[i], l[first]
		permuted(l, first+1, do)
		l[first], l[i] = l[i], l[first]
	}
}

// wide tells a number that is near 0, or near the least or the greatest one.
func wide(next func(int) int) int {
	return [...]int{least, -3, greatest - 5}[next(3)] + next(6)
}

func TestSomeTurns(t *testing.T) {
	next := scattered()
	for _, often := range []int{2, 3, 4, 10} {
		for range 60 {
			b := both{q: order.New()}
			for range 300 {
				if next(often) == 0 {
					b.pop(t)
				} else {
					b.push(pair{wide(next), wide(next)})
				}
				holds(t, b.q, len(b.l))
			}
			b.popAll(t)
		}
	}
}

func TestManyComeOutInOrder(t *testing.T) {
	next := scattered()
	for _, keys := range []int{1, 2, 1000, 1 << 30} {
		in := make([]pair, 100000)
		q := order.New()
		for i := range in {
			in[i] = pair{next(keys) - keys/2, next(1000)}
			q.Push(in[i][0], in[i][1])
		}
		slices.SortFunc(in, func(a, b pair) int { return slices.Compare(a[:], b[:]) })
		givesAll(t, q, in...)
	}
}

func TestManySideBySide(t *testing.T) {
	next := scattered()
	var all [7]both
	for i := range all {
		all[i].q = order.New()
	}
	for range 5000 {
		if b := &all[next(len(all))]; next(3) == 0 {
			b.pop(t)
		} else {
			b.push(pair{next(9), next(9)})
		}
	}
	for i := range all {
		all[i].popAll(t)
	}
}

func TestGreatestAsTheQueue(t *testing.T) {
	next := scattered()
	for n := range 200 {
		for _, keys := range []int{1, 2, 5, 1 << 20} {
			l := make([]int, n)
			q := order.New()
			for i := range l {
				l[i] = next(keys) - keys/2
				q.Push(-l[i], i)
			}
			for at, place := range order.Greatest(l) {
				if _, id, ok := q.Pop(); !ok || id != place {
					t.Fatalf("Greatest(%v) has %d at %d, the queue %d, %t", l, place, at, id, ok)
				}
			}
			empty(t, q)
		}
	}
}

func TestAllShortLists(t *testing.T) {
	for many, all := 0, 1; many <= 7; many, all = many+1, all*4 {
		for digits := range all {
			l := make([]int, many)
			for i := range l {
				l[i] = digits>>(2*i)&3 - 2
			}
			inOrder(t, l, order.Greatest(l))
		}
	}
}

// inOrder holds that places are all those of a list, and that each two stand as they should.
func inOrder(t *testing.T, l, got []int) {
	t.Helper()
	if sorted := slices.Clone(got); len(got) != len(l) {
		t.Fatalf("Greatest(%v): %v", l, got)
	} else if slices.Sort(sorted); !slices.Equal(sorted, rising(len(l))) {
		t.Fatalf("Greatest(%v): %v has not each place once", l, got)
	}
	for i := range len(got) - 1 {
		if a, b := got[i], got[i+1]; l[a] < l[b] || l[a] == l[b] && a > b {
			t.Fatalf("Greatest(%v): %v has %d ahead of %d", l, got, a, b)
		}
	}
}

func TestMemoryIsApart(t *testing.T) {
	given := append(make([]int, 0, 9), 4, 8, 4, 9, -2)
	was := slices.Clone(given)
	want := []int{3, 1, 0, 2, 4}
	first, second := order.Greatest(given), order.Greatest(given)
	if !slices.Equal(given, was) || !slices.Equal(given[5:9], make([]int, 4)) {
		t.Fatalf("%v was changed to %v", was, given[:9])
	}
	for i := range given {
		given[i] = 100 + i
	}
	if !slices.Equal(first, want) || !slices.Equal(second, want) {
		t.Fatalf("%v and %v, want %v", first, second, want)
	}
	clear(first[:cap(first)])
	if !slices.Equal(second, want) || given[0] != 100 {
		t.Fatalf("one answer was changed by another: %v, %v", second, given)
	}
}
