package txn

import (
	"slices"
	"strings"

	"reveille/api"
	"reveille/graph"
	"reveille/order"
)

// choice: a job that stands for its unit, and whether it must be.
type choice struct {
	api.Job
	must bool
}

// plan: one job a unit, by Unit.
type plan []choice

// planOf: of each unit's jobs the one that stands for them all; ErrTxnClash, if there is none.
func planOf(all set[api.Job]) (plan, api.Errno) {
	var p plan
	for job, must := range all.sorted(byUnitAndKind) {
		c := choice{Job: job, must: must}
		last := len(p) - 1
		if last < 0 || p[last].Unit != job.Unit {
			p = append(p, c)
			continue
		}
		one, err := merged(p[last], c)
		if err != api.OK {
			return nil, err
		}
		p[last] = one
	}
	return p, api.OK
}

// merged: of two jobs of a unit, b's Kind the greater one. In which order three are merged makes no difference.
func merged(a, b choice) (choice, api.Errno) {
	stop, other := a, b
	if b.Kind == api.JStop {
		stop, other = b, a
	}
	switch {
	case stop.Kind != api.JStop: // a start and a restart: b is the restart
		b.must = a.must || b.must
		return b, api.OK
	case a.must && b.must:
		return choice{}, api.ErrTxnClash
	case stop.must:
		return stop, api.OK
	}
	return other, api.OK
}

// unstuck: the jobs without those that are left out lest some go round in a circle; ErrTxnCycle, if that can't be helped.
func (p plan) unstuck(g *graph.Graph, waits []api.Job) (plan, api.Errno) {
	waiting := firsts(waits)
	for {
		stuck := order.Stuck(g, p.among(waiting))
		if len(stuck) == 0 {
			return p, api.OK
		}
		place, some := p.weakest(stuck)
		if !some {
			return nil, api.ErrTxnCycle
		}
		p = slices.Delete(p, place, place+1)
	}
}

// firsts: of each unit the first job that doesn't run yet.
func firsts(waits []api.Job) []api.Job {
	seen := set[string]{}
	var l []api.Job
	for _, job := range waits {
		if !job.Running && seen.put(job.Unit, false) {
			l = append(l, job)
		}
	}
	return l
}

// among: the plan's jobs and those that wait, of units for which the plan has none.
func (p plan) among(waiting []api.Job) []api.Job {
	l := p.jobs()
	for _, job := range waiting {
		if _, here := p.placeOf(job.Unit); !here {
			l = append(l, job)
		}
	}
	return l
}

// weakest: of the jobs that are stuck, by Unit, the last one that the plan has and that needn't be: where it stands in the plan.
func (p plan) weakest(stuck []api.Job) (int, bool) {
	for _, job := range slices.Backward(stuck) {
		if place, here := p.placeOf(job.Unit); here && !p[place].must {
			return place, true
		}
	}
	return 0, false
}

// isBusy: whether a job waits, or runs, that isn't what the plan has for its unit.
func (p plan) isBusy(waits []api.Job) bool {
	return slices.ContainsFunc(waits, func(job api.Job) bool {
		place, here := p.placeOf(job.Unit)
		return here && p[place].Kind != job.Kind
	})
}

// placeOf: where the unit's job stands.
func (p plan) placeOf(unit string) (int, bool) {
	return slices.BinarySearchFunc(p, unit, func(c choice, unit string) int { return strings.Compare(c.Unit, unit) })
}

func (p plan) jobs() []api.Job {
	var l []api.Job
	for _, c := range p {
		l = append(l, c.Job)
	}
	return l
}
