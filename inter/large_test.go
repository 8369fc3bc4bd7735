package inter_test

import (
	"slices"
	"testing"

	"greenwood/api"
	"greenwood/inter"
	"greenwood/set"
)

// circle tells the matroid of a circle of 64 vertices.
func circle() kind {
	m := kind{Tag: api.Graph, N: 64, A: 64}
	for v := range 64 {
		m.List = append(m.List, []int{v, (v + 1) % 64})
	}
	return m
}

// powers tells a matroid of 64 columns modulo a prime, of which so many are independent, whichever they are.
func powers(rows int) kind {
	m := kind{Tag: api.Linear, N: 64, A: rows, B: 67}
	for x := range 64 {
		col, power := make([]int, rows), 1
		for row := range col {
			col[row] = power
			power = power * x % m.B
		}
		m.List = append(m.List, col)
	}
	return m
}

// greatestOf tells the greatest common set that is told, of 64 elements, and holds that it is one of so many.
func greatestOf(t *testing.T, a, b kind, many int) []int {
	t.Helper()
	s, u, e := inter.Max(a, b)
	if e != api.OK || len(s) != many {
		t.Errorf("Max tells %v, %v, %d, want %d elements", s, u, e, many)
	}
	proves(t, a, b, s, u)
	return s
}

// either holds that a greatest common set has so many elements, whichever of the two is first.
func either(t *testing.T, a, b kind, many int) {
	t.Helper()
	greatestOf(t, a, b, many)
	greatestOf(t, b, a, many)
}

func TestLargeUniform(t *testing.T) {
	all := set.All(64)
	for _, k := range []int{0, 1, 31, 32, 63, 64} {
		tells(t, kind{N: 64, A: k}, kind{N: 64, A: k}, all[:k], all)
		tells(t, kind{N: 64, A: k}, free(64), all[:k], all)
		if k < 64 {
			tells(t, free(64), kind{N: 64, A: k}, all[:k], nil)
		}
		for _, many := range []int{0, 1, 33, 64} {
			bounds(t, kind{N: 64, A: k}, free(64), all[:many], min(k, many)+64-many)
		}
	}
}

func TestLargeCircle(t *testing.T) {
	all, cuts := set.All(64), dualOf(circle())
	for _, m := range []kind{circle(), {Tag: api.Sum, N: 64, Inner: []kind{circle()}}, dualOf(cuts)} {
		tells(t, m, free(64), all[:63], all)
		tells(t, free(64), m, all[:63], nil)
		tells(t, m, m, all[:63], all)
		tells(t, m, cuts, []int{0}, nil)
		tells(t, cuts, m, []int{0}, all)
	}
}

func TestLargeMatching(t *testing.T) {
	// Eight and eight, each with each.
	var each, stairs [][2]int
	for x := range 64 {
		each = append(each, [2]int{x / 8, x % 8})
	}
	left, right := pairs(each...)
	diagonal := []int{0, 9, 18, 27, 36, 45, 54, 63}
	tells(t, left, right, diagonal, set.All(64))
	tells(t, right, left, diagonal, set.All(64))
	// Each on the left may go with all up to its own place, those that may with all ahead: all others must give way.
	for l := range 10 {
		for r := range l + 1 {
			stairs = append(stairs, [2]int{l, r})
		}
	}
	slices.Reverse(stairs)
	left, right = pairs(stairs...)
	either(t, left, right, 10)
	// Four have but two whom they may go with; six have eight others.
	var few [][2]int
	for l := range 10 {
		for r := range 10 {
			if (l < 4) == (r < 2) {
				few = append(few, [2]int{l, r})
			}
		}
	}
	left, right = pairs(few...)
	either(t, left, right, 8)
	slices.Reverse(few)
	left, right = pairs(few...)
	either(t, left, right, 8)
}

func TestLargeBaseOfNeither(t *testing.T) {
	// Of each four, one of the first two in the one, one of the last two in the other one.
	var first, second, s, front, back []int
	for x := 0; x < 64; x += 4 {
		class := x / 4 * 3
		first, second = append(first, class, class, class+1, class+2), append(second, class, class+1, class+2, class+2)
		s, front, back = append(s, x, x+2), append(front, x, x+1), append(back, x+2, x+3)
	}
	a, b := classes(first...), classes(second...)
	tells(t, a, b, s, front)
	tells(t, b, a, s, back)
	bounds(t, a, b, nil, 48)
	bounds(t, a, b, set.All(64), 48)
	bounds(t, a, b, back, 64)
}

func TestLargeLongWay(t *testing.T) {
	// 63 in a row, and one that is independent in neither.
	a, b := row(between(31))
	for _, m := range []*kind{&a, &b} {
		m.N, m.A = 64, m.A+1
		m.List = lists{append(m.List[0], m.A-1), append(m.List[1], 0)}
	}
	late := set.All(63)[31:]
	tells(t, a, b, late, set.All(64))
	tells(t, b, a, late, set.All(64))
}

func TestLargeSeveralLongWays(t *testing.T) {
	// Rows of 5, 7, 9, 11, 15 and 17, one behind the other.
	var left, right []kind
	var late []int
	first := 0
	for _, many := range []int{2, 3, 4, 5, 7, 8} {
		a, b := row(between(many))
		left, right = append(left, a), append(right, b)
		for x := range many + 1 {
			late = append(late, first+many+x)
		}
		first += 2*many + 1
	}
	a, b := kind{Tag: api.Sum, N: first, Inner: left}, kind{Tag: api.Sum, N: first, Inner: right}
	if first != 64 {
		t.Fatalf("there are %d elements", first)
	}
	tells(t, a, b, late, set.All(64))
	tells(t, b, a, late, set.All(64))
}

func TestLargeColours(t *testing.T) {
	// Forests of a graph of two parts, of which no three edges are of one colour, or such that two of each are left.
	grid := kind{Tag: api.Graph, N: 64, A: 33}
	colours := kind{Tag: api.Part, N: 64, A: 16, List: lists{nil, slices.Repeat([]int{2}, 16)}}
	for x := range 64 {
		grid.List = append(grid.List, []int{x % 33, (x*x + 5) % 33})
		colours.List[0] = append(colours.List[0], x/4)
	}
	either(t, grid, colours, 31)
	either(t, grid, dualOf(colours), 31)
	either(t, dualOf(grid), colours, 32)
}

func TestLargeColumns(t *testing.T) {
	all := set.All(64)
	tells(t, powers(20), free(64), all[:20], all)
	tells(t, free(64), powers(20), all[:20], nil)
	tells(t, powers(20), circle(), all[:20], all)
	tells(t, circle(), powers(20), all[:20], nil)
	tells(t, powers(0), powers(20), nil, all)
	tells(t, powers(20), powers(0), nil, nil)
	// So many are left of all that there is a base among them.
	tells(t, powers(5), dualOf(powers(5)), all[:5], all)
	tells(t, dualOf(powers(5)), powers(5), all[:5], nil)
}

func TestLargeSides(t *testing.T) {
	// On the left each may go with two that are one behind the other; of these there are 32 in the one, 16 in the other one.
	sides := func(right int) kind {
		m := kind{Tag: api.Trans, N: 64, A: right + 1}
		for x := range 64 {
			m.List = append(m.List, []int{x % right, x%right + 1})
		}
		return m
	}
	either(t, sides(32), sides(16), 17)
	either(t, sides(32), dualOf(sides(32)), 31)
	either(t, sides(16), dualOf(sides(16)), 17)
	either(t, sides(20), circle(), 21)
}

func TestLargeDeep(t *testing.T) {
	all := set.All(64)
	// Four deep: of 64 edges of a circle 40 at most, what is left when so many others are.
	few := kind{Tag: api.Trunc, N: 64, A: 40, Inner: []kind{circle()}}
	most := kind{Tag: api.Sum, N: 64, Inner: []kind{dualOf(few)}}
	tells(t, few, most, all[:24], nil)
	tells(t, most, few, all[:24], all)
	tells(t, most, most, all[:24], all)
	eight := kind{Tag: api.Sum, N: 64}
	for k := range 8 {
		eight.Inner = append(eight.Inner, dualOf(dualOf(kind{N: 8, A: k + 1})))
	}
	either(t, eight, free(64), 36)
	either(t, eight, few, 36)
	either(t, eight, most, 24)
	either(t, eight, dualOf(few), 24)
}
