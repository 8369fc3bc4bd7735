package order

import "cmp"

// pair is what is put into a queue.
type pair struct{ key, id int }

// pairs are a heap: its calls are those that container/heap asks for.
type pairs []pair

func (l pairs) Len() int { return len(l) }

func (l pairs) Less(i, j int) bool {
	return cmp.Or(cmp.Compare(l[i].key, l[j].key), cmp.Compare(l[i].id, l[j].id)) < 0
}

func (l pairs) Swap(i, j int) { l[i], l[j] = l[j], l[i] }

func (l *pairs) Push(p any) { *l = append(*l, p.(pair)) }

func (l *pairs) Pop() any {
	last := len(*l) - 1
	p := (*l)[last]
	*l = (*l)[:last]
	return p
}
