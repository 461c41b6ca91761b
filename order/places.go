package order

import "container/heap"

// places: a heap of them: the least stands in front.
type places []int

// Len, Less, Swap, Push and Pop are what package heap asks for.
func (p places) Len() int           { return len(p) }
func (p places) Less(i, j int) bool { return p[i] < p[j] }
func (p places) Swap(i, j int)      { p[i], p[j] = p[j], p[i] }
func (p *places) Push(place any)    { *p = append(*p, place.(int)) }

func (p *places) Pop() any {
	last := len(*p) - 1
	place := (*p)[last]
	*p = (*p)[:last]
	return place
}

// takeLeast: of a heap that isn't empty.
func (p *places) takeLeast() int { return heap.Pop(p).(int) }
