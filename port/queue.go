package port

import (
	"iter"
	"slices"

	"reveille/api"
)

// queue: of what waits, the first one ahead; at most api.MaxQueue.
type queue[T any] struct{ items []T }

// push: one more waits, behind the others; false, if there is no room.
func (q *queue[T]) push(x T) bool {
	if len(q.items) >= api.MaxQueue {
		return false
	}
	q.items = append(q.items, x)
	return true
}

// pop: the first one, which waits no more; false, if there is none.
func (q *queue[T]) pop() (T, bool) {
	if len(q.items) == 0 {
		var none T
		return none, false
	}
	first := q.items[0]
	q.items = slices.Delete(q.items, 0, 1) // and not q.items[1:], which would hold on to the first one's text
	return first, true
}

// all: in order.
func (q *queue[T]) all() iter.Seq[T] { return slices.Values(q.items) }

func (q *queue[T]) len() int { return len(q.items) }
