package job

import (
	"cmp"
	"iter"
	"slices"

	"reveille/api"
	"reveille/graph"
)

// each: goes through the jobs, in no order.
func (j *Jobs) each(yield func(api.Job) bool) {
	for _, job := range j.jobs {
		if !yield(job) {
			return
		}
	}
}

// byId: what goes through these jobs by Id, as they are then.
func byId(jobs iter.Seq[api.Job]) iter.Seq[api.Job] {
	return func(yield func(api.Job) bool) {
		for _, job := range slices.SortedFunc(jobs, func(a, b api.Job) int { return cmp.Compare(a.Id, b.Id) }) {
			if !yield(job) {
				return
			}
		}
	}
}

// needing: the jobs that can't be done, as the unit can't start; those that run see for themselves.
func (j *Jobs) needing(g *graph.Graph, unit string) iter.Seq[api.Job] {
	return func(yield func(api.Job) bool) {
		for e := range g.Into(unit) {
			if e.Kind != api.RRequires && e.Kind != api.RBindsTo {
				continue
			}
			job, there := j.Of(e.From)
			if there && isStarting(job) && !job.Running && !yield(job) {
				return
			}
		}
	}
}

// canHold: whether the job could be there beside those that are.
func (j *Jobs) canHold(job api.Job) bool {
	if job.Unit == "" || job.Id < 1 || job.Id >= j.Next() || !isKind(job.Kind) {
		return false
	}
	_, taken := j.jobs[job.Id]
	_, busy := j.ids[job.Unit]
	return !taken && !busy
}

// put: the job is there, beside others of other units.
func (j *Jobs) put(job api.Job) {
	if j.jobs == nil {
		j.jobs, j.ids = map[int]api.Job{}, map[string]int{}
	}
	j.jobs[job.Id] = job
	j.ids[job.Unit] = job.Id
}

// end: the job isn't there any more.
func (j *Jobs) end(job api.Job, result int) api.Ended {
	delete(j.jobs, job.Id)
	delete(j.ids, job.Unit)
	return api.Ended{Id: job.Id, Unit: job.Unit, Kind: job.Kind, Result: result}
}

func isKind(kind int) bool { return kind >= api.JStart && kind <= api.JRestart }

// isStarting: whether the job is to bring its unit up.
func isStarting(job api.Job) bool { return job.Kind == api.JStart || job.Kind == api.JRestart }

// isFailure: whether, with this result, what needs the unit can't be done.
func isFailure(result int) bool {
	return result != api.RDone && result != api.RCanceled && result != api.RSkipped
}
