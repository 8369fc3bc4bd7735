package indep_test

import (
	"slices"
	"testing"

	"greenwood/indep"
)

// circle tells the matroid of a circle of n vertices.
func circle(n int) kind {
	var l lists
	for v := range n {
		l = append(l, []int{v, (v + 1) % n})
	}
	return edges(n, l...)
}

// powers tells a matroid of columns, of which so many are a basis, whichever they are.
func powers(p, rows, many int) kind {
	var l lists
	for x := range many {
		col, power := make([]int, rows), 1
		for row := range col {
			col[row] = power
			power = power * x % p
		}
		l = append(l, col)
	}
	return columns(p, rows, l...)
}

// stairs tells sides of which each may go with all up to its own place.
func stairs(n int) kind {
	var l lists
	for i := range n {
		l = append(l, rising(i+1))
	}
	return sides(n, l...)
}

// deepened calls do with a matroid of 64 elements, and with such as are like it, up to 4 deep.
func deepened(m kind, do func(kind)) {
	do(m)
	do(dualOf(dualOf(m)))
	do(stays(goes(most(64, m)), rising(64)...))
	do(sumOf(m, free(0)))
	do(most(64, dualOf(dualOf(m))))
}

func TestSixtyFourElements(t *testing.T) {
	for _, c := range []struct {
		m    kind
		most int
	}{
		{free(64), 64}, {kind{N: 64}, 0}, {kind{N: 64, A: 63}, 63}, {circle(64), 63},
		{classes(make([]int, 64), 64), 64}, {classes(make([]int, 64), 17), 17}, {classes(rising(64), slices.Repeat([]int{1}, 64)...), 64},
		{stairs(64), 64}, {sides(5, slices.Repeat(lists{rising(5)}, 64)...), 5}, {powers(1<<31-1, 20, 64), 20}, {powers(67, 64, 64), 64},
	} {
		deepened(c.m, func(m kind) {
			for _, many := range []int{0, 1, 2, 5, 6, 17, 18, 20, 21, 40, 62, 63, 64} {
				ranks(t, m, rising(many), min(many, c.most))
				ranks(t, m, rising(64)[64-many:], min(many, c.most))
			}
		})
		for _, many := range []int{0, 1, 4, 44, 45, 47, 48, 63, 64} {
			ranks(t, dualOf(c.m), rising(many), min(many, 64-c.most))
		}
	}
	loops := edges(64, slices.Repeat(lists{{63, 63}}, 64)...)
	deepened(loops, func(m kind) { ranks(t, m, rising(64), 0) })
	ranks(t, dualOf(loops), rising(64), 64)
}

func TestSixtyFourElementsOfEight(t *testing.T) {
	eight := sumOf(circle(8), stairs(8), powers(11, 3, 8), classes(make([]int, 8), 2), kind{N: 8, A: 4}, dualOf(circle(8)), most(5, free(8)), goes(free(9), 8))
	want := []int{7, 8, 3, 2, 4, 1, 5, 8}
	all := 0
	for i, most := range want {
		all += most
		ranks(t, eight, rising(64)[8*i:8*i+8], most)
		ranks(t, eight, rising(64)[:8*i+8], all)
		ranks(t, eight, []int{8*i + 7}, 1)
	}
	ranks(t, dualOf(eight), rising(64), 64-all)
	ranks(t, stays(eight, 0, 8, 63), rising(3), 3)
	ranks(t, goes(eight, rising(8)...), rising(56), all-7)
	ranks(t, goes(eight, rising(63)...), []int{0}, 1)
	// The dual's circle lies 4 deep as it is.
	ranks(t, stays(eight, 39, 47, 56, 63), rising(4), 4)
	mayNot(t, stays(sumOf(eight), 39, 47, 56, 63), rising(4))
}

func TestManyWithin(t *testing.T) {
	// Eight, each of eight, each of eight, of which the first ones alone have elements.
	leaf := func(n int) kind {
		return sumOf(append(inner{circle(max(n, 1))}, slices.Repeat(inner{free(0)}, 7)...)...)
	}
	var l inner
	for i := range 8 {
		l = append(l, sumOf(leaf(1+i%2), edges(1), leaf(5), stays(circle(3))))
	}
	m := sumOf(l...)
	ranks(t, m, rising(m.N), 8*4+4)
	ranks(t, m, []int{0}, 0)
	ranks(t, m, []int{1}, 1)
	ranks(t, m, []int{1, 2, 3, 4, 5}, 4)
	mayNot(t, sumOf(m), nil)
}

func TestLargeCircleWithoutOne(t *testing.T) {
	m := dualOf(dualOf(circle(64)))
	for x := range 64 {
		if !indep.Indep(m, slices.Delete(rising(64), x, x+1)) {
			t.Errorf("the circle without %d is not independent", x)
		}
	}
}
