package txn

import (
	"iter"
	"maps"
	"slices"
)

// set: of things, each of which must be in it or needn't.
type set[T comparable] map[T]bond

// bond: of a thing to its set.
type bond struct{ must bool }

// put: the thing is in the set; one that must be stays so. Whether this is news.
func (s set[T]) put(thing T, must bool) bool {
	was, in := s[thing]
	if in && (was.must || !must) {
		return false
	}
	s[thing] = bond{must: must}
	return true
}

// sorted: each thing with whether it must be.
func (s set[T]) sorted(compare func(a, b T) int) iter.Seq2[T, bool] {
	return func(yield func(T, bool) bool) {
		for _, thing := range slices.SortedFunc(maps.Keys(s), compare) {
			if !yield(thing, s[thing].must) {
				return
			}
		}
	}
}
