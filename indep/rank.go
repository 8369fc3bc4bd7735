package indep

import (
	"slices"

	"greenwood/api"
	"greenwood/elim"
	"greenwood/join"
	"greenwood/match"
	"greenwood/matroid"
	"greenwood/set"
)

// rank tells the rank of a set of elements, both as May.
func rank(m api.Matroid, s []int) int {
	switch m.Tag {
	case api.Uniform:
		return min(m.A, len(s))
	case api.Graph:
		return join.Rank(m.A, edges(m.List, s))
	case api.Part:
		return ofClasses(m.List[0], m.List[1], s)
	case api.Trans:
		_, many := match.Max(m.A, picked(m.List, s))
		return many
	case api.Linear:
		return elim.Rank(m.B, m.A, picked(m.List, s))
	case api.Sum:
		return ofSum(m.Inner, s)
	}
	return ofOne(m, s)
}

// ofOne tells the rank of a set of elements of a matroid with one other within.
func ofOne(m api.Matroid, s []int) int {
	in := m.Inner[0]
	switch m.Tag {
	case api.Trunc:
		return min(m.A, rank(in, s))
	case api.Dual:
		// An element goes from the others for nothing, as long as they keep the rank of all.
		all := set.All(m.N)
		return len(s) + rank(in, set.Minus(all, s)) - rank(in, all)
	}
	image, _ := matroid.Image(m, s)
	if m.Tag == api.Restrict {
		return rank(in, image)
	}
	// Each largest independent set of the list's elements has the same ones above it: its size alone is taken off.
	gone := m.List[0]
	return rank(in, set.Union(image, gone)) - rank(in, gone)
}

// ofSum tells the rank of a set of elements of matroids, one behind the other.
func ofSum(l []api.Matroid, s []int) int {
	many, first := 0, 0
	for _, m := range l {
		many += rank(m, between(s, first, m.N))
		first += m.N
	}
	return many
}

// between tells those of a set that are among so many numbers from the first one on, counted from that.
func between(s []int, first, many int) []int {
	var l []int
	for _, x := range s {
		if x >= first && x < first+many {
			l = append(l, x-first)
		}
	}
	return l
}

// ofClasses tells how many of a set their classes, each with its most, have room for.
func ofClasses(class, most, s []int) int {
	many, room := 0, slices.Clone(most)
	for _, x := range s {
		if room[class[x]] > 0 {
			room[class[x]]--
			many++
		}
	}
	return many
}

// picked tells the lists at these places.
func picked(lists [][]int, places []int) [][]int {
	l := make([][]int, len(places))
	for i, x := range places {
		l[i] = lists[x]
	}
	return l
}

// edges tells the edges at these places.
func edges(ends [][]int, places []int) [][2]int {
	l := make([][2]int, len(places))
	for i, x := range places {
		l[i] = [2]int(ends[x])
	}
	return l
}
