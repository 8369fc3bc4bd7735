package elim_test

import (
	"slices"
	"testing"

	"greenwood/api"
	"greenwood/elim"
)

// code tells a column as one number, of digits that are less than p.
func code(p int, col []int) int {
	n := 0
	for _, x := range col {
		n = n*p + x
	}
	return n
}

// plus tells a column and so many times another one.
func plus(p int, a []int, times int, b []int) []int {
	l := slices.Clone(a)
	for i, x := range b {
		l[i] = (l[i] + times*x%p) % p
	}
	return l
}

// sum tells what columns come to, each times a number.
func sum(p, rows int, cols columns, times []int) []int {
	l := make([]int, rows)
	for i, col := range cols {
		l = plus(p, l, times[i], col)
	}
	return l
}

// spans tells, of the first columns, none of them first, all the combinations.
func spans(p, rows int, cols columns) []map[int][]int {
	zero := make([]int, rows)
	list := []map[int][]int{{code(p, zero): zero}}
	for i, col := range cols {
		next := map[int][]int{}
		for _, v := range list[i] {
			for times := range p {
				w := plus(p, v, times, col)
				next[code(p, w)] = w
			}
		}
		list = append(list, next)
	}
	return list
}

// power tells p times itself, so often.
func power(p, n int) int {
	all := 1
	for range n {
		all *= p
	}
	return all
}

// lists calls do with all lists of so many columns.
func lists(p, rows, many int, do func(columns)) {
	cols := make(columns, many)
	for i := range cols {
		cols[i] = make([]int, rows)
	}
	var fill func(int)
	fill = func(i int) {
		if i == rows*many {
			do(cols)
			return
		}
		for x := range p {
			cols[i/rows][i%rows] = x
			fill(i + 1)
		}
	}
	fill(0)
}

// small calls do with all lists of few columns, of few rows, modulo small primes.
func small(do func(p, rows int, cols columns)) {
	for _, s := range [][3]int{
		{2, 1, 6}, {2, 2, 5}, {2, 3, 4}, {2, 4, 3}, {2, 5, 2},
		{3, 1, 5}, {3, 2, 3}, {3, 3, 2}, {5, 1, 4}, {5, 2, 2}, {7, 1, 3}, {7, 2, 2}, {13, 1, 2},
	} {
		for many := range s[2] + 1 {
			lists(s[0], s[1], many, func(cols columns) { do(s[0], s[1], cols) })
		}
	}
}

// scattered tells a rule that scatters numbers.
func scattered() func(most int) int {
	seed := 1
	return func(most int) int {
		seed = (seed*1103515245 + 12345) % (1 << 31)
		return seed * most >> 31
	}
}

// wider calls do with some lists of more columns, modulo small primes; not all of their numbers are 0.
func wider(do func(p, rows int, cols columns)) {
	next := scattered()
	for _, s := range [][2]int{{2, 6}, {2, 8}, {3, 3}, {3, 4}, {5, 3}, {7, 3}} {
		for many := range 9 {
			for range 12 {
				cols := make(columns, many)
				for i := range cols {
					cols[i] = make([]int, s[1])
					for row := range cols[i] {
						cols[i][row] = next(s[0]) * next(2)
					}
				}
				do(s[0], s[1], cols)
			}
		}
	}
}

// byTrying holds all that is told of columns against all the combinations that there are.
func byTrying(t *testing.T, p, rows int, cols columns) {
	t.Helper()
	list := spans(p, rows, cols)
	var basis []int
	for i, col := range cols {
		if _, in := list[i][code(p, col)]; !in {
			basis = append(basis, i)
		}
	}
	told(t, p, rows, cols, basis)
	every := list[len(cols)]
	goals := spans(p, rows, units(rows, 1))[rows]
	for c, goal := range goals {
		got, ok := elim.Combo(p, rows, cols, goal)
		if _, in := every[c]; in != ok {
			t.Errorf("Combo(%d, %d, %v, %v): %v, %v", p, rows, cols, goal, got, ok)
		}
		if !ok {
			if len(got) != 0 {
				t.Errorf("Combo(%d, %d, %v, %v): %v, %v", p, rows, cols, goal, got, ok)
			}
			continue
		}
		byBasis(t, p, rows, cols, basis, goal, got)
	}
}

// byBasis holds what is told by Combo against what it stands for.
func byBasis(t *testing.T, p, rows int, cols columns, basis, goal, got []int) {
	t.Helper()
	if len(got) != len(cols) || !slices.Equal(sum(p, rows, cols, got), goal) {
		t.Fatalf("Combo(%d, %d, %v, %v): %v", p, rows, cols, goal, got)
	}
	for i, n := range got {
		if n < 0 || n >= p || n > 0 && !slices.Contains(basis, i) {
			t.Errorf("Combo(%d, %d, %v, %v): %v", p, rows, cols, goal, got)
		}
	}
}

func TestLikeTrying(t *testing.T) {
	look := func(p, rows int, cols columns) { byTrying(t, p, rows, cols) }
	small(look)
	wider(look)
}

// some tells those columns whose bits mask has.
func some(cols columns, mask int) columns {
	var l columns
	for i, col := range cols {
		if mask>>i&1 == 1 {
			l = append(l, col)
		}
	}
	return l
}

// noneLarger holds the rank against all lists of some of the columns: one that comes to each column in one way alone,
// or not to each, has no more columns; and one that can't grow has as many.
func noneLarger(t *testing.T, p, rows int, cols columns) {
	t.Helper()
	rank := elim.Rank(p, rows, cols)
	for mask := range 1 << len(cols) {
		l := some(cols, mask)
		span := spans(p, rows, l)[len(l)]
		free := len(span) == power(p, len(l))
		if free != (elim.Rank(p, rows, l) == len(l)) {
			t.Errorf("Rank(%d, %d, %v): %d", p, rows, l, elim.Rank(p, rows, l))
		}
		grows := slices.ContainsFunc(cols, func(col []int) bool {
			_, in := span[code(p, col)]
			return !in
		})
		if free && (len(l) > rank || !grows && len(l) != rank) {
			t.Errorf("Rank(%d, %d, %v): %d; %v", p, rows, cols, rank, l)
		}
	}
}

func TestNoBasisIsLarger(t *testing.T) {
	count := 0
	wider(func(p, rows int, cols columns) {
		if len(cols) <= 5 {
			noneLarger(t, p, rows, cols)
			count++
		}
	})
	if count == 0 {
		t.Error("no columns")
	}
	lists(2, 2, 4, func(cols columns) { noneLarger(t, 2, 2, cols) })
	lists(2, 3, 3, func(cols columns) { noneLarger(t, 2, 3, cols) })
	lists(3, 2, 3, func(cols columns) { noneLarger(t, 3, 2, cols) })
	lists(5, 2, 2, func(cols columns) { noneLarger(t, 5, 2, cols) })
}

func TestBasisInOneWay(t *testing.T) {
	look := func(p, rows int, cols columns) {
		var basis columns
		for _, i := range elim.Basis(p, rows, cols) {
			basis = append(basis, cols[i])
		}
		span := spans(p, rows, basis)[len(basis)]
		if len(span) != power(p, len(basis)) || len(span) != len(spans(p, rows, cols)[len(cols)]) {
			t.Errorf("Basis(%d, %d, %v): %v", p, rows, cols, basis)
		}
		told(t, p, rows, basis, all(len(basis)))
		for i, col := range cols {
			got, ok := elim.Combo(p, rows, cols, col)
			short, in := elim.Combo(p, rows, basis, col)
			if !ok || !in {
				t.Fatalf("modulo %d, column %d of %v: %v, %v", p, i, cols, got, short)
			}
			at := elim.Basis(p, rows, cols)
			for j, n := range short {
				if got[at[j]] != n {
					t.Errorf("modulo %d, column %d of %v: %v, %v", p, i, cols, got, short)
				}
			}
		}
	}
	small(look)
	wider(look)
}

func TestOrderDoesNotCountForRank(t *testing.T) {
	look := func(p, rows int, cols columns) {
		rank := elim.Rank(p, rows, cols)
		turned := slices.Clone(cols)
		for i := range turned {
			turned = append(turned[1:], turned[0])
			if got := elim.Rank(p, rows, turned); got != rank {
				t.Errorf("Rank(%d, %d, %v): %d, turned by %d: %d", p, rows, cols, rank, i+1, got)
			}
		}
		slices.Reverse(turned)
		if got := elim.Rank(p, rows, turned); got != rank {
			t.Errorf("Rank(%d, %d, %v): %d, the other way round: %d", p, rows, cols, rank, got)
		}
	}
	small(look)
	wider(look)
}

// powers tells the column of the powers of x, from 1 on: as many of these as there are rows, or less, no combination
// of the others has, as long as no x comes twice.
func powers(p, rows, x int) []int {
	col := make([]int, rows)
	n := 1
	for i := range col {
		col[i] = n
		n = n * x % p
	}
	return col
}

// built are columns, the places of those that are no combination of those ahead of them, and by which numbers these
// come to each column.
type built struct {
	cols  columns
	basis []int
	from  columns
}

// build makes as many columns as may be: powers, no more than rank, and combinations of those that are ahead.
func build(p, rows, rank int, next func(int) int) built {
	var b built
	for i := range api.MaxN {
		from := make([]int, api.MaxN)
		left := rank - len(b.basis)
		if left > 0 && (next(2) == 0 || left == api.MaxN-i) {
			from[i] = 1
			b.cols = append(b.cols, powers(p, rows, p-2-len(b.basis)))
			b.basis = append(b.basis, i)
		} else {
			for _, at := range b.basis {
				from[at] = next(p)
			}
			b.cols = append(b.cols, sum(p, rows, b.cols, from))
		}
		b.from = append(b.from, from)
	}
	return b
}

func TestManyColumns(t *testing.T) {
	next := scattered()
	for _, p := range []int{101, 65537, 998244353, top - 18, top} {
		for _, s := range [][2]int{{api.MaxV, api.MaxV}, {api.MaxV, api.MaxV - 1}, {api.MaxV, 40}, {api.MaxV, 1}, {33, 33}, {33, 20}, {5, 5}, {2, 1}} {
			rows, rank := s[0], s[1]
			b := build(p, rows, rank, next)
			told(t, p, rows, b.cols, b.basis)
			for i, col := range b.cols {
				comes(t, p, rows, b.cols, col, b.from[i])
			}
			times := make([]int, api.MaxN)
			for _, at := range b.basis {
				times[at] = p - 1 - next(3)
			}
			comes(t, p, rows, b.cols, sum(p, rows, b.cols, times), times)
			if rank < rows {
				none(t, p, rows, b.cols, powers(p, rows, p-2-rank))
				none(t, p, rows, b.cols, powers(p, rows, 1))
				continue
			}
			goal := powers(p, rows, 1)
			got, ok := elim.Combo(p, rows, b.cols, goal)
			if !ok {
				t.Fatalf("modulo %d, %d rows: no combination", p, rows)
			}
			byBasis(t, p, rows, b.cols, b.basis, goal, got)
		}
	}
}

func TestToldTheSameEachTime(t *testing.T) {
	b := build(top, api.MaxV, api.MaxV, scattered())
	goal := powers(top, api.MaxV, 1)
	first, _ := elim.Combo(top, api.MaxV, b.cols, goal)
	for range 20 {
		comes(t, top, api.MaxV, b.cols, goal, first)
	}
}

// clone tells the same columns, in memory of their own, with room behind each list.
func clone(cols columns) columns {
	l := make(columns, 0, len(cols)+1)
	for _, col := range cols {
		l = append(l, append(make([]int, 0, len(col)+1), col...))
	}
	return l
}

// untouched tells whether columns, and the room behind them, are as clone made them.
func untouched(cols, was columns) bool {
	for _, col := range cols {
		if col[:cap(col)][len(col)] != 0 {
			return false
		}
	}
	return cols[:cap(cols)][len(cols)] == nil && slices.EqualFunc(cols, was, slices.Equal[[]int])
}

// fill writes into a list, as far as its memory goes.
func fill(l []int) {
	l = l[:cap(l)]
	for i := range l {
		l[i] = -9
	}
}

func TestMemoryIsApart(t *testing.T) {
	wider(func(p, rows int, cols columns) {
		goals := append(columns{same(rows, 0), same(rows, p-1)}, cols...)
		for _, goal := range goals {
			given, aim := clone(cols), clone(columns{goal})
			elim.May(p, rows, given)
			elim.Rank(p, rows, given)
			basis := elim.Basis(p, rows, given)
			was := slices.Clone(basis)
			times, ok := elim.Combo(p, rows, given, aim[0])
			want := slices.Clone(times)
			fill(times)
			if !slices.Equal(basis, was) || !untouched(given, cols) || !untouched(aim, columns{goal}) {
				t.Fatalf("modulo %d, %v and %v were changed to %v and %v", p, cols, goal, given, aim)
			}
			fill(basis)
			told(t, p, rows, given, was)
			if ok {
				comes(t, p, rows, given, aim[0], want)
			}
		}
	})
}
