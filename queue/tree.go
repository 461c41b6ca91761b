package queue

import (
	"cmp"
	"iter"
	"slices"
)

// tree: an element, and behind it trees with elements that it is ahead of.
type tree[T any] struct {
	value  T
	turn   int // how many elements were pushed earlier
	behind *list[T]
}

// list: trees. It is never changed, only put behind a new first one, so that queues can share it.
type list[T any] struct {
	first tree[T]
	rest  *list[T]
}

func (l *list[T]) all() iter.Seq[tree[T]] {
	return func(yield func(tree[T]) bool) {
		for at := l; at != nil; at = at.rest {
			if !yield(at.first) {
				return
			}
		}
	}
}

// trees: in memory of their own.
func (l *list[T]) trees() []tree[T] { return slices.Collect(l.all()) }

// trees: of all elements, in no order that means anything.
func (q *Queue[T]) trees() iter.Seq[tree[T]] {
	return func(yield func(tree[T]) bool) {
		for left := slices.Clone(q.front); len(left) > 0; {
			last := left[len(left)-1]
			left = slices.AppendSeq(left[:len(left)-1], last.behind.all())
			if !yield(last) {
				return
			}
		}
	}
}

// twin: a queue with the same elements; what is done with it doesn't touch q.
func (q *Queue[T]) twin() *Queue[T] {
	return &Queue[T]{before: q.before, front: slices.Clone(q.front), count: q.count, pushed: q.pushed}
}

// ahead: whether a is ahead of b; never in a queue that New didn't make, which has no order.
func (q *Queue[T]) ahead(a, b T) bool { return q.before != nil && q.before(a, b) }

// waits: whether t waits, from now on, behind one of others that is ahead of it.
func (q *Queue[T]) waits(t tree[T], others []tree[T]) bool {
	for i, other := range slices.Backward(others) { // of several the one that is popped last: so t isn't moved at each Pop
		if q.ahead(other.value, t.value) {
			others[i].behind = &list[T]{first: t, rest: other.behind}
			return true
		}
	}
	return false
}

// unheld: those of trees that don't wait behind one of others.
func (q *Queue[T]) unheld(trees, others []tree[T]) []tree[T] {
	if len(others) == 0 { // so a great front isn't gone through for one that is pushed and waits at once
		return trees
	}
	return slices.DeleteFunc(trees, func(t tree[T]) bool { return q.waits(t, others) })
}

// join: those of a and b that none of them is ahead of, the others behind these; among those of a, and among those of b, none is ahead of another one.
func (q *Queue[T]) join(a, b []tree[T]) []tree[T] {
	b = q.unheld(b, a)
	a = q.unheld(a, b)
	return append(a, b...)
}

// least: those of trees that none of them is ahead of, the others behind these. By halves, as then few trees come to stand right behind one, and little is to be done when it is popped.
func (q *Queue[T]) least(trees []tree[T]) []tree[T] {
	if len(trees) < 2 {
		return trees
	}
	half := len(trees) / 2
	return q.join(q.least(trees[:half]), q.least(trees[half:]))
}

// free: these trees, which waited behind what is out now, wait behind one of the front or stand in it. (None is ahead of one of the front, as then what is out would have been.)
func (q *Queue[T]) free(trees []tree[T]) {
	trees = q.unheld(trees, q.front)
	if len(trees) == 0 {
		return
	}
	q.front = append(q.front, q.least(trees)...)
	slices.SortFunc(q.front, func(a, b tree[T]) int { return cmp.Compare(a.turn, b.turn) })
}
