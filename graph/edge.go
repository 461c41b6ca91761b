package graph

import (
	"cmp"
	"iter"
	"maps"
	"slices"

	"reveille/api"
	"reveille/name"
)

// shutdown: the target that all units but targets give way to, if they aren't Plain.
const shutdown = "shutdown.target"

// ends: edges by the unit at one of their ends, each with how often units tell of it: one that is told of twice is still there when one of the two is gone.
type ends map[string]map[api.Edge]int

// count: the edge, which has the unit at one end, is told of more often by so much; one that isn't told of is none.
func (all ends) count(unit string, e api.Edge, by int) {
	here, some := all[unit]
	if !some {
		here = map[api.Edge]int{}
		all[unit] = here
	}
	here[e] += by
	if here[e] == 0 {
		delete(here, e)
	}
	if len(here) == 0 {
		delete(all, unit)
	}
}

// sorted: the unit's edges, by Kind, then by the other end.
func (all ends) sorted(unit string) iter.Seq[api.Edge] {
	return slices.Values(slices.SortedFunc(maps.Keys(all[unit]), compare))
}

// compare: of edges that share an end the other one alone counts.
func compare(a, b api.Edge) int {
	return cmp.Or(cmp.Compare(a.Kind, b.Kind), cmp.Compare(a.From, b.From), cmp.Compare(a.To, b.To))
}

// relation: what a unit has to do with others: an edge from it to each of the names or, if it is turned, from each of them to it.
type relation struct {
	kind   int
	turned bool
	names  []string
}

// told: the edges that u tells of, some of them again; all have u at one end.
func told(u api.Unit) iter.Seq[api.Edge] {
	return func(yield func(api.Edge) bool) {
		for _, r := range relations(u) {
			for _, other := range r.names {
				if other != u.Name && name.Is(other) && !yield(r.edge(u.Name, other)) {
					return
				}
			}
		}
	}
}

// edge: of the unit that has the relation, and of another one.
func (r relation) edge(unit, other string) api.Edge {
	if r.turned {
		return api.Edge{Kind: r.kind, From: other, To: unit}
	}
	return api.Edge{Kind: r.kind, From: unit, To: other}
}

func relations(u api.Unit) []relation {
	all := []relation{
		{kind: api.RWants, names: u.Wants},
		{kind: api.RRequires, names: u.Requires},
		{kind: api.RBindsTo, names: u.BindsTo},
		{kind: api.RPartOf, names: u.PartOf},
		{kind: api.RConflicts, names: u.Conflicts},
		{kind: api.RAfter, names: u.After},
		{kind: api.RAfter, turned: true, names: u.Before},
	}
	if u.Kind == api.Socket || u.Kind == api.Timer || u.Kind == api.Path {
		target := []string{u.Target}
		all = append(all, relation{kind: api.RTriggers, names: target}, relation{kind: api.RAfter, turned: true, names: target})
	}
	if u.Plain {
		return all
	}
	if u.Kind == api.Target {
		return append(all, relation{kind: api.RAfter, names: u.Wants}, relation{kind: api.RAfter, names: u.Requires})
	}
	last := []string{shutdown}
	return append(all, relation{kind: api.RConflicts, names: last}, relation{kind: api.RAfter, turned: true, names: last})
}
