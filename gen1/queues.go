package gen1

import (
	"slices"

	"interregnum/api"
)

// addQueue adds a queue.
func (g *Scheduler) addQueue(q api.Queue) api.Errno {
	at, found := find(g.queues, q.Name, queueName)
	switch {
	case found:
		return api.ErrDup
	case len(g.queues) >= api.MaxQueues:
		return api.ErrFull
	}
	g.queues = slices.Insert(g.queues, at, q)
	return api.OK
}

// dropQueue removes a queue without jobs.
func (g *Scheduler) dropQueue(name string) api.Errno {
	at, found := find(g.queues, name, queueName)
	switch {
	case !found:
		return api.ErrNone
	case g.hasJobs(name):
		return api.ErrBusy
	}
	g.queues = remove(g.queues, at)
	return api.OK
}

// hasJobs reports whether a queue has jobs, be they waiting or bound.
func (g *Scheduler) hasJobs(queue string) bool {
	return slices.ContainsFunc(g.jobs, func(j api.Job) bool {
		return j.Task.Queue == queue
	})
}
