package order

import (
	"container/heap"
	"iter"
	"slices"
	"strings"

	"reveille/api"
	"reveille/graph"
)

// byUnit: a list of its own.
func byUnit(l []api.Job) []api.Job {
	return slices.SortedStableFunc(slices.Values(l), func(a, b api.Job) int { return strings.Compare(a.Unit, b.Unit) })
}

// waits: which of the jobs, all by Unit, waits for which, by places. Each RAfter between two units makes one of their jobs wait; some pairs are told twice.
func waits(g *graph.Graph, jobs []api.Job) iter.Seq2[int, int] {
	return func(yield func(int, int) bool) {
		for place, job := range jobs {
			for e := range g.Edges(job.Unit) {
				other, there := placeOf(jobs, e.To)
				if e.Kind != api.RAfter || !there {
					continue
				}
				waiter, awaited := place, other
				if isAhead(job) {
					waiter, awaited = other, place
				}
				if !yield(waiter, awaited) {
					return
				}
			}
		}
	}
}

// placeOf: where the unit's job stands.
func placeOf(jobs []api.Job, unit string) (int, bool) {
	return slices.BinarySearchFunc(jobs, unit, func(job api.Job, unit string) int { return strings.Compare(job.Unit, unit) })
}

// turned: the same pairs the other way round.
func turned(pairs iter.Seq2[int, int]) iter.Seq2[int, int] {
	return func(yield func(int, int) bool) {
		for a, b := range pairs {
			if !yield(b, a) {
				return
			}
		}
	}
}

// row: jobs, of which those that wait for none are taken out, by places.
type row struct {
	jobs   []api.Job
	behind [][]int // of each one those that wait for it
	open   []int   // of each one how many that are left it waits for
	front  places  // those that are left and wait for none
}

// rowOf: with all jobs left. Of each pair the first waits for the second.
func rowOf(jobs []api.Job, pairs iter.Seq2[int, int]) *row {
	r := &row{jobs: jobs, behind: make([][]int, len(jobs)), open: make([]int, len(jobs))}
	for waiter, awaited := range pairs {
		r.behind[awaited] = append(r.behind[awaited], waiter)
		r.open[waiter]++
	}
	for place, open := range r.open {
		if open == 0 {
			r.front = append(r.front, place) // rising, so it is a heap
		}
	}
	return r
}

// ready: those that are left and wait for none, rising. Only who goes on behind the first pays for the order of the others.
func (r *row) ready() iter.Seq[int] {
	return func(yield func(int) bool) {
		if len(r.front) == 0 || !yield(r.front[0]) {
			return
		}
		for _, place := range slices.Sorted(slices.Values(r.front[1:])) {
			if !yield(place) {
				return
			}
		}
	}
}

// first: false, if nothing is ready.
func (r *row) first() (int, bool) {
	for place := range r.ready() {
		return place, true
	}
	return 0, false
}

// takeFirst: the first that is ready isn't left any more.
func (r *row) takeFirst() {
	gone := r.front.takeLeast()
	for _, waiter := range r.behind[gone] {
		r.open[waiter]--
		if r.open[waiter] == 0 {
			heap.Push(&r.front, waiter)
		}
	}
}

// out: again and again the first that is ready, which is taken out.
func (r *row) out() iter.Seq[int] {
	return func(yield func(int) bool) {
		for place, some := r.first(); some; place, some = r.first() {
			r.takeFirst()
			if !yield(place) {
				return
			}
		}
	}
}

// rest: the jobs that are left, when all are taken out that come to wait for none.
func (r *row) rest() []api.Job {
	for range r.out() {
	}
	var left []api.Job
	for place, open := range r.open {
		if open > 0 {
			left = append(left, r.jobs[place])
		}
	}
	return left
}
