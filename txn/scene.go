package txn

import (
	"cmp"
	"iter"

	"reveille/api"
	"reveille/graph"
)

// states: of units, as they were told; what is no state counts as Inactive.
type states map[string]int

func statesOf(l []api.Status) states {
	all := states{}
	for _, s := range l {
		all[s.Name] = s.State // the last one of a name counts
	}
	return all
}

// isDown: whether it is Inactive or Failed.
func (s states) isDown(unit string) bool {
	return s[unit] < api.Activating || s[unit] > api.Deactivating
}

// isUp: whether it is, or is about to be.
func (s states) isUp(unit string) bool {
	return s[unit] == api.Activating || s[unit] == api.Active
}

// scene: the units and their states: what jobs are looked at in.
type scene struct {
	g      *graph.Graph
	states states
}

// closure: by Unit, then Kind, the jobs that belong to the first one, each with whether it must be.
func (s scene) closure(first api.Job) iter.Seq2[api.Job, bool] {
	return func(yield func(api.Job, bool) bool) {
		s.grown(first).sorted(byUnitAndKind)(yield)
	}
}

func byUnitAndKind(a, b api.Job) int {
	return cmp.Or(cmp.Compare(a.Unit, b.Unit), cmp.Compare(a.Kind, b.Kind))
}

// grown: the set of the jobs that belong to the first one, which must be. A job that turns out to must be is looked at once more, as what it brings may have to be, too.
func (s scene) grown(first api.Job) set[api.Job] {
	all := set[api.Job]{}
	all.put(first, true)
	for open := []api.Job{first}; len(open) > 0; {
		job := open[len(open)-1]
		open = open[:len(open)-1]
		must := all[job].must
		for other, along := range s.brought(job) {
			if all.put(other, must && along) {
				open = append(open, other)
			}
		}
	}
	return all
}

// brought: the jobs that belong to this one at once, each with whether it must be if this one must.
func (s scene) brought(job api.Job) iter.Seq2[api.Job, bool] {
	return func(yield func(api.Job, bool) bool) {
		if isBegin(job.Kind) && !s.isLoaded(job.Unit) {
			return
		}
		for e := range s.g.Edges(job.Unit) {
			kind, along := forth(job.Kind, e.Kind)
			if s.isFor(e.To, kind) && !yield(api.Job{Unit: e.To, Kind: kind}, along) {
				return
			}
		}
		for e := range s.g.Into(job.Unit) {
			kind, along := back(job.Kind, e.Kind)
			if s.isFor(e.From, kind) && !yield(api.Job{Unit: e.From, Kind: kind}, along) {
				return
			}
		}
	}
}

// forth: what kind of job an edge from a job's unit brings (0: none), and whether it must be if the job must.
func forth(job, edge int) (int, bool) {
	if !isBegin(job) {
		return 0, false
	}
	switch edge {
	case api.RRequires, api.RBindsTo:
		return api.JStart, true
	case api.RWants:
		return api.JStart, false
	case api.RConflicts:
		return api.JStop, true
	}
	return 0, false
}

// back: the same of an edge to the job's unit.
func back(job, edge int) (int, bool) {
	switch edge {
	case api.RConflicts:
		if isBegin(job) {
			return api.JStop, true
		}
	case api.RRequires, api.RBindsTo, api.RPartOf:
		if job == api.JStop || job == api.JRestart {
			return job, job == api.JStop
		}
	}
	return 0, false
}

// isBegin: whether units of such jobs are to be up in the end.
func isBegin(kind int) bool { return kind == api.JStart || kind == api.JRestart }

// isFor: whether a job of the kind that others bring is one for the unit, by its state.
func (s scene) isFor(unit string, kind int) bool {
	switch kind {
	case api.JStart:
		return true
	case api.JStop:
		return !s.states.isDown(unit)
	case api.JRestart:
		return s.states.isUp(unit)
	}
	return false
}

func (s scene) isLoaded(unit string) bool {
	u, there := s.g.Unit(unit)
	return there && u.Load == api.Loaded
}

// loaded: the closure of the job without those that needn't be and would bring up a unit that isn't loaded; ErrTxnLoad, if one of these must be.
func (s scene) loaded(first api.Job) (set[api.Job], api.Errno) {
	all := set[api.Job]{}
	for job, must := range s.closure(first) {
		if !isBegin(job.Kind) || s.isLoaded(job.Unit) {
			all.put(job, must)
		} else if must {
			return nil, api.ErrTxnLoad
		}
	}
	return all, api.OK
}

// isolate: what is up stops, but needn't: where a unit is to be brought up, too, that goes ahead in the plan.
func (s scene) isolate(all set[api.Job]) {
	for u := range s.g.Units() {
		if !s.states.isDown(u.Name) {
			all.put(api.Job{Unit: u.Name, Kind: api.JStop}, false)
		}
	}
}

// needed: the jobs that have something to do: a unit that is down needn't go down ahead of coming up.
func (s scene) needed(p plan) plan {
	var needed plan
	for _, c := range p {
		down := s.states.isDown(c.Unit)
		switch {
		case c.Kind == api.JStart && s.states[c.Unit] == api.Active, c.Kind == api.JStop && down:
			continue
		case c.Kind == api.JRestart && down:
			c.Kind = api.JStart
		}
		needed = append(needed, c)
	}
	return needed
}
