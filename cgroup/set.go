package cgroup

import (
	"cmp"
	"maps"
	"slices"
)

// set: of things that have an order. A nil one is empty, and is only asked.
type set[T cmp.Ordered] map[T]struct{}

func (s set[T]) add(x T) { s[x] = struct{}{} }

func (s set[T]) drop(x T) { delete(s, x) }

func (s set[T]) has(x T) bool {
	_, there := s[x]
	return there
}

// rising: all of them, in new memory.
func (s set[T]) rising() []T { return slices.Sorted(maps.Keys(s)) }
