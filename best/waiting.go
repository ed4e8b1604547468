package best

import "tropica/twin"

// waiting: ways that have not been gone on from yet, as a heap, the cheapest one first.
type waiting []way

func (w waiting) Len() int { return len(w) }

func (w waiting) Less(i, j int) bool { return twin.Less(w[i].cost, w[j].cost) }

func (w waiting) Swap(i, j int) { w[i], w[j] = w[j], w[i] }

func (w *waiting) Push(x any) { *w = append(*w, x.(way)) }

func (w *waiting) Pop() any {
	last := len(*w) - 1
	x := (*w)[last]
	*w = (*w)[:last]
	return x
}
