package span

import (
	"iter"

	"greenwood/set"
)

// outside tells, one by one, all others of n elements than those of a set.
func outside(n int, s []int) iter.Seq[int] {
	return func(yield func(int) bool) {
		for x := range n {
			if !set.Has(s, x) && !yield(x) {
				return
			}
		}
	}
}

// each tells, one by one, the elements of a set, and with each of them all others.
func each(s []int) iter.Seq2[int, []int] {
	return func(yield func(int, []int) bool) {
		for _, x := range s {
			if !yield(x, set.Minus(s, []int{x})) {
				return
			}
		}
	}
}

// grown tells a set with one element more. The set may have room behind it, which is not to be written into: it has none
// as a three-index slice.
func grown(s []int, x int) []int { return set.Sort(append(s[:len(s):len(s)], x)) }
