package elim_test

import (
	"math"
	"slices"
	"testing"

	"greenwood/api"
	"greenwood/elim"
)

// top is the greatest prime that there are columns modulo.
const top = 1<<31 - 1

type columns = [][]int

// told holds what is told of columns that may be against what is wanted.
func told(t *testing.T, p, rows int, cols columns, basis []int) {
	t.Helper()
	if !elim.May(p, rows, cols) {
		t.Errorf("May(%d, %d, %v): false", p, rows, cols)
	}
	if got := elim.Basis(p, rows, cols); !slices.Equal(got, basis) {
		t.Errorf("Basis(%d, %d, %v): %v, want %v", p, rows, cols, got, basis)
	}
	if got := elim.Rank(p, rows, cols); got != len(basis) {
		t.Errorf("Rank(%d, %d, %v): %d, want %d", p, rows, cols, got, len(basis))
	}
}

// comes holds what a goal comes from against what is wanted.
func comes(t *testing.T, p, rows int, cols columns, goal, want []int) {
	t.Helper()
	if got, ok := elim.Combo(p, rows, cols, goal); !ok || !slices.Equal(got, want) {
		t.Errorf("Combo(%d, %d, %v, %v): %v, %v, want %v", p, rows, cols, goal, got, ok, want)
	}
}

// none asks for a goal that does not come from the columns, or may not stand among them.
func none(t *testing.T, p, rows int, cols columns, goal []int) {
	t.Helper()
	if got, ok := elim.Combo(p, rows, cols, goal); ok || len(got) != 0 {
		t.Errorf("Combo(%d, %d, %v, %v): %v, %v", p, rows, cols, goal, got, ok)
	}
}

// refused asks each call of columns that may not be.
func refused(t *testing.T, p, rows int, cols columns) {
	t.Helper()
	if elim.May(p, rows, cols) {
		t.Errorf("May modulo %d of %d rows and %d columns: true", p, rows, len(cols))
	}
	if got := elim.Basis(p, rows, cols); len(got) != 0 {
		t.Errorf("Basis modulo %d of %d rows and %d columns: %v", p, rows, len(cols), got)
	}
	if got := elim.Rank(p, rows, cols); got != -1 {
		t.Errorf("Rank modulo %d of %d rows and %d columns: %d", p, rows, len(cols), got)
	}
	goals := columns{nil, {}, {0}, {1}, make([]int, max(0, min(rows, 100)))}
	if len(cols) > 0 {
		goals = append(goals, make([]int, len(cols[0])))
		goals = append(goals, cols[:min(len(cols), 3)]...)
	}
	for _, goal := range goals {
		if got, ok := elim.Combo(p, rows, cols, goal); ok || len(got) != 0 {
			t.Errorf("Combo modulo %d of %d rows and %d columns, of %v: %v, %v", p, rows, len(cols), goal, got, ok)
		}
	}
}

func TestColumns(t *testing.T) {
	cases := []struct {
		p, rows int
		cols    columns
		basis   []int
	}{
		{5, 2, columns{{1, 2}, {2, 4}, {0, 1}}, []int{0, 2}},
		{5, 2, columns{{2, 4}, {1, 2}, {0, 1}}, []int{0, 2}},
		{5, 2, columns{{0, 1}, {1, 2}, {2, 4}}, []int{0, 1}},
		{7, 2, columns{{1, 2}, {2, 4}, {0, 1}}, []int{0, 2}},
		{3, 1, columns{{0}, {2}, {1}, {0}}, []int{1}},
		{2, 1, columns{{1}}, []int{0}},
		{2, 1, columns{{0}}, nil},
		{2, 2, columns{{1, 0}, {1, 1}, {0, 1}}, []int{0, 1}},
		// The same numbers: dependent modulo 2 alone.
		{2, 3, columns{{1, 1, 0}, {0, 1, 1}, {1, 0, 1}}, []int{0, 1}},
		{3, 3, columns{{1, 1, 0}, {0, 1, 1}, {1, 0, 1}}, []int{0, 1, 2}},
		// Rows that lead fall, and what is in the rows between is not 0.
		{7, 3, columns{{0, 0, 3}, {0, 2, 5}, {4, 6, 1}, {4, 1, 3}}, []int{0, 1, 2}},
		{7, 3, columns{{0, 0, 3}, {0, 2, 5}, {0, 4, 4}, {4, 6, 1}}, []int{0, 1, 3}},
		{7, 4, columns{{1, 0, 0, 1}, {0, 0, 1, 1}, {1, 0, 1, 2}, {1, 0, 2, 3}, {0, 1, 0, 0}, {6, 3, 0, 6}, {0, 0, 0, 1}}, []int{0, 1, 4, 6}},
		// No more than the rows.
		{5, 2, columns{{1, 1}, {1, 2}, {1, 3}, {1, 4}, {1, 0}}, []int{0, 1}},
		{top, 2, columns{{top - 1, 1}, {1, top - 1}, {3, 5}}, []int{0, 2}},
		{top, 1, columns{{0}, {top - 1}, {1}}, []int{1}},
		{top, 3, columns{{top - 1, top - 1, top - 1}, {top - 1, top - 1, 1}, {top - 1, 1, top - 1}}, []int{0, 1, 2}},
		{top, 2, columns{{1 << 30, 1}, {1, 2}, {2, 4}}, []int{0}},
		{top - 18, 2, columns{{1 << 30, 1}, {1, 2}, {2, 4}}, []int{0, 1}},
	}
	for _, c := range cases {
		told(t, c.p, c.rows, c.cols, c.basis)
	}
}

func TestCombinations(t *testing.T) {
	five := columns{{1, 2}, {2, 4}, {0, 1}}
	cases := []struct {
		p, rows    int
		cols       columns
		goal, want []int
	}{
		{5, 2, five, []int{3, 4}, []int{3, 0, 3}},
		{5, 2, five, []int{0, 0}, []int{0, 0, 0}},
		// One of the columns, and no basis has it.
		{5, 2, five, []int{2, 4}, []int{2, 0, 0}},
		{5, 2, five, []int{1, 2}, []int{1, 0, 0}},
		{5, 2, five, []int{0, 1}, []int{0, 0, 1}},
		{5, 2, five, []int{4, 4}, []int{4, 0, 1}},
		{5, 2, five[:2], []int{4, 3}, []int{4, 0}},
		{5, 2, columns{{2, 4}, {1, 2}, {0, 1}}, []int{1, 2}, []int{3, 0, 0}},
		{2, 3, columns{{1, 1, 0}, {0, 1, 1}, {1, 0, 1}}, []int{1, 0, 1}, []int{1, 1, 0}},
		{3, 3, columns{{1, 1, 0}, {0, 1, 1}, {1, 0, 1}}, []int{2, 2, 2}, []int{1, 1, 1}},
		{3, 3, columns{{1, 1, 0}, {0, 1, 1}, {1, 0, 1}}, []int{1, 0, 0}, []int{2, 1, 2}},
		// The lines that are taken off have lines within that are taken off.
		{7, 3, columns{{1, 1, 1}, {1, 2, 3}, {1, 3, 6}}, []int{0, 0, 1}, []int{1, 5, 1}},
		{7, 3, columns{{1, 1, 1}, {1, 2, 3}, {1, 3, 6}}, []int{1, 0, 0}, []int{3, 4, 1}},
		{7, 3, columns{{0, 0, 3}, {0, 2, 5}, {4, 6, 1}}, []int{4, 1, 2}, []int{1, 1, 1}},
		{top, 2, columns{{top - 1, 1}, {1, top - 1}, {3, 5}}, []int{2, 6}, []int{1, 0, 1}},
		{top, 2, columns{{top - 1, 1}, {1, top - 1}, {3, 5}}, []int{1, top - 1}, []int{top - 1, 0, 0}},
		{top, 1, columns{{top - 1}}, []int{1}, []int{top - 1}},
		{top, 1, columns{{2}}, []int{1}, []int{1 << 30}},
		{2, 1, columns{{1}}, []int{1}, []int{1}},
	}
	for _, c := range cases {
		comes(t, c.p, c.rows, c.cols, c.goal, c.want)
	}
}

func TestNoCombination(t *testing.T) {
	none(t, 5, 2, columns{{1, 2}, {2, 4}}, []int{0, 1})
	none(t, 5, 2, columns{{1, 2}, {2, 4}}, []int{1, 0})
	none(t, 5, 2, columns{{1, 2}, {2, 4}}, []int{1, 3})
	none(t, 5, 2, columns{{0, 0}, {0, 0}}, []int{0, 1})
	none(t, 5, 2, nil, []int{0, 1})
	none(t, 5, 1, columns{}, []int{4})
	none(t, 2, 3, columns{{1, 1, 0}, {0, 1, 1}, {1, 0, 1}}, []int{1, 0, 0})
	none(t, 2, 3, columns{{1, 1, 0}, {0, 1, 1}, {1, 0, 1}}, []int{1, 1, 1})
	none(t, top, 2, columns{{top - 1, 1}}, []int{1, 1})
	none(t, top, 2, columns{{1 << 30, 1}}, []int{1, 1})
	// All rows but the last one are right.
	none(t, 7, 3, columns{{1, 1, 1}, {1, 2, 3}, {0, 1, 2}}, []int{2, 3, 5})
	none(t, 7, 3, columns{{1, 1, 1}, {1, 2, 3}, {0, 1, 2}}, []int{0, 0, 1})
}

func TestNoColumns(t *testing.T) {
	for _, p := range []int{2, 3, 5, top} {
		for _, rows := range []int{0, 1, 2, api.MaxV} {
			zero := make([]int, rows)
			for _, cols := range []columns{nil, {}} {
				told(t, p, rows, cols, nil)
				comes(t, p, rows, cols, zero, nil)
				if rows > 0 {
					zero[rows-1] = p - 1
					none(t, p, rows, cols, zero)
					zero[rows-1] = 0
				}
			}
		}
	}
}

func TestNoRows(t *testing.T) {
	for _, p := range []int{2, 7, top} {
		for _, many := range []int{0, 1, 2, api.MaxN} {
			cols := make(columns, many)
			told(t, p, 0, cols, nil)
			comes(t, p, 0, cols, nil, make([]int, many))
			comes(t, p, 0, cols, []int{}, make([]int, many))
			none(t, p, 0, cols, []int{0})
			for i := range cols {
				cols[i] = []int{}
			}
			told(t, p, 0, cols, nil)
			comes(t, p, 0, cols, nil, make([]int, many))
		}
	}
}

// same tells a column that has x in all rows.
func same(rows, x int) []int { return slices.Repeat([]int{x}, rows) }

func TestZeroAndTwice(t *testing.T) {
	for _, p := range []int{2, 5, top} {
		for _, rows := range []int{1, 2, 3, api.MaxV} {
			zero, one, last := same(rows, 0), same(rows, 1), same(rows, p-1)
			told(t, p, rows, columns{zero, zero, zero}, nil)
			comes(t, p, rows, columns{zero, zero, zero}, zero, []int{0, 0, 0})
			none(t, p, rows, columns{zero, zero, zero}, one)
			told(t, p, rows, columns{one, one, one}, []int{0})
			comes(t, p, rows, columns{one, one, one}, one, []int{1, 0, 0})
			comes(t, p, rows, columns{one, one, one}, last, []int{p - 1, 0, 0})
			told(t, p, rows, columns{zero, last, one, last, zero}, []int{1})
			comes(t, p, rows, columns{zero, last, one, last, zero}, one, []int{0, p - 1, 0, 0, 0})
			comes(t, p, rows, columns{zero, last, one, last, zero}, last, []int{0, 1, 0, 0, 0})
			comes(t, p, rows, columns{zero, last, one, last, zero}, zero, []int{0, 0, 0, 0, 0})
		}
	}
}

// units tells the columns that are x in one row each, the first row first, and 0 in all others.
func units(rows, x int) columns {
	cols := make(columns, rows)
	for i := range cols {
		cols[i] = same(rows, 0)
		cols[i][i] = x
	}
	return cols
}

// all tells 0 to n - 1.
func all(n int) []int {
	l := make([]int, n)
	for i := range l {
		l[i] = i
	}
	return l
}

func TestMostColumnsAndRows(t *testing.T) {
	for _, p := range []int{2, 3, top} {
		cols := units(api.MaxV, p-1)
		told(t, p, api.MaxV, cols, all(api.MaxN))
		// The columns are as many as may be: a goal may be one of them, or another one.
		for i, col := range cols {
			comes(t, p, api.MaxV, cols, col, units(api.MaxN, 1)[i])
		}
		comes(t, p, api.MaxV, cols, same(api.MaxV, p-1), same(api.MaxN, 1))
		comes(t, p, api.MaxV, cols, same(api.MaxV, 0), same(api.MaxN, 0))
		slices.Reverse(cols)
		told(t, p, api.MaxV, cols, all(api.MaxN))
		comes(t, p, api.MaxV, cols, cols[1], units(api.MaxN, 1)[1])
		cols[api.MaxN-1] = cols[0]
		told(t, p, api.MaxV, cols, all(api.MaxN-1))
		none(t, p, api.MaxV, cols, units(api.MaxV, 1)[0])
		// All columns but the last one are 0.
		cols = make(columns, api.MaxN)
		for i := range cols {
			cols[i] = []int{0}
		}
		cols[api.MaxN-1] = []int{1}
		told(t, p, 1, cols, []int{api.MaxN - 1})
		comes(t, p, 1, cols, []int{p - 1}, append(same(api.MaxN-1, 0), p-1))
	}
}

// noPrimes are numbers that there are no columns modulo.
func noPrimes() []int {
	return []int{
		0, 1, -1, -2, -3, -5, -7, -97, -top, math.MinInt, math.MinInt + 1,
		4, 6, 8, 9, 15, 25, 49, 561, 2047, 65536, 746331041, top - 1, 46337 * 46337,
		1 << 31, 1<<31 + 1, 1<<31 + 11, 1<<32 + 2, 1<<32 + 15, 1<<40 + 15, 1<<61 - 1, math.MaxInt,
	}
}

func TestMayNotBeByPrime(t *testing.T) {
	for _, p := range noPrimes() {
		refused(t, p, 0, nil)
		refused(t, p, 0, columns{{}, {}})
		refused(t, p, 1, nil)
		refused(t, p, 1, columns{{0}})
		refused(t, p, 1, columns{{1}, {2}})
		refused(t, p, 2, columns{{1, 0}, {0, 1}, {1, 1}})
		refused(t, p, api.MaxV, columns{same(api.MaxV, 0)})
	}
}

func TestMayNotBeByRows(t *testing.T) {
	for _, p := range []int{2, 5, top} {
		for _, rows := range []int{-1, -2, -64, -65, math.MinInt, api.MaxV + 1, api.MaxV + 2, 100, 1 << 32, 1 << 40, math.MaxInt} {
			refused(t, p, rows, nil)
			refused(t, p, rows, columns{})
			refused(t, p, rows, columns{{}})
			refused(t, p, rows, columns{{0}})
			if rows > 0 && rows <= 100 {
				refused(t, p, rows, columns{same(rows, 0)})
				refused(t, p, rows, columns{same(rows, 1), same(rows, 1)})
			}
		}
	}
}

func TestMayNotBeByHowMany(t *testing.T) {
	for _, p := range []int{2, 5, top} {
		for _, many := range []int{api.MaxN + 1, api.MaxN + 2, 1000, 1 << 16} {
			for _, rows := range []int{0, 1, 2, api.MaxV} {
				refused(t, p, rows, slices.Repeat(columns{same(rows, 0)}, many))
				refused(t, p, rows, slices.Repeat(columns{same(rows, 1)}, many))
			}
			refused(t, p, 0, make(columns, many))
		}
	}
}

// places calls do with columns of which one, wherever it stands, is bad.
func places(rows, x int, bad []int, do func(columns)) {
	for _, many := range []int{1, 2, 3, api.MaxN} {
		for _, at := range []int{0, many / 2, many - 1} {
			cols := slices.Repeat(columns{same(rows, x)}, many)
			cols[at] = bad
			do(cols)
		}
	}
}

func TestMayNotBeByLength(t *testing.T) {
	for _, p := range []int{2, 5, top} {
		for _, rows := range []int{0, 1, 2, 3, api.MaxV - 1, api.MaxV} {
			for _, long := range []int{0, 1, 2, rows - 1, rows + 1, rows + 2, api.MaxV, 1000} {
				if long < 0 || long == rows {
					continue
				}
				for _, x := range []int{0, 1, p - 1} {
					places(rows, x, same(long, x), func(cols columns) { refused(t, p, rows, cols) })
				}
				none(t, p, rows, nil, same(long, 0))
				none(t, p, rows, columns{same(rows, 1)}, same(long, 0))
				none(t, p, rows, columns{same(rows, 1)}, same(long, 1))
			}
			if rows > 0 {
				places(rows, 1, nil, func(cols columns) { refused(t, p, rows, cols) })
				none(t, p, rows, columns{same(rows, 1)}, nil)
			}
		}
	}
}

func TestMayNotBeByNumber(t *testing.T) {
	for _, p := range []int{2, 3, 5, 7, 65537, top} {
		for _, x := range []int{-1, -2, -p, 1 - p, math.MinInt, p, p + 1, 2 * p, 1 << 31, 1 << 32, 1<<32 + 1, math.MaxInt} {
			for _, rows := range []int{1, 2, 3, api.MaxV} {
				for _, row := range []int{0, rows / 2, rows - 1} {
					bad := same(rows, 1)
					bad[row] = x
					places(rows, 1, bad, func(cols columns) { refused(t, p, rows, cols) })
					// What would be left of the goal is no matter.
					none(t, p, rows, nil, bad)
					none(t, p, rows, columns{same(rows, 1)}, bad)
					none(t, p, rows, units(rows, 1), bad)
					bad = same(rows, 0)
					bad[row] = x
					none(t, p, rows, nil, bad)
					none(t, p, rows, columns{same(rows, 1)}, bad)
				}
			}
		}
		told(t, p, 2, columns{{0, p - 1}, {p - 1, 0}, {p - 1, p - 1}}, []int{0, 1})
		comes(t, p, 2, columns{{0, p - 1}, {p - 1, 0}}, []int{p - 1, p - 1}, []int{1, 1})
	}
}
