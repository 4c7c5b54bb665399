package gen2

import (
	"interregnum/api"
	"interregnum/heap"
	"interregnum/order"
	"interregnum/res"
)

// queue is a queue with its jobs.
type queue struct {
	api.Queue
	// jobs are all of them, be they waiting or bound.
	jobs jobs
	// waiting are those that wait, of which the one that is tried first is the top.
	waiting *heap.Heap[*api.Job]
}

// addQueue adds a queue.
func (g *Scheduler) addQueue(q api.Queue) api.Errno {
	_, found := g.queues[q.Name]
	switch {
	case found:
		return api.ErrDup
	case len(g.queues) >= api.MaxQueues:
		return api.ErrFull
	}
	g.putQueue(q)
	return api.OK
}

// dropQueue removes a queue without jobs.
func (g *Scheduler) dropQueue(name string) api.Errno {
	q, found := g.queues[name]
	switch {
	case !found:
		return api.ErrNone
	case len(q.jobs) > 0:
		return api.ErrBusy
	}
	delete(g.queues, name)
	return api.OK
}

// putQueue stores a queue without jobs.
func (g *Scheduler) putQueue(q api.Queue) {
	g.queues[q.Name] = &queue{q, jobs{}, heap.New(ahead)}
}

// admits reports whether the queue has quota for a need in addition to what its jobs use.
func (q *queue) admits(need api.Res) bool {
	// Both are valid, so an error can only be a sum above api.MaxRes, which is above every quota too.
	all, err := res.Add(q.jobs.needs(), need)
	return err == api.OK && res.Fits(all, q.Quota)
}

// moveTop moves the job of the queue that is tried first, if one waits, to others.
func (q *queue) moveTop(to *heap.Heap[*api.Job]) {
	if j, ok := q.waiting.Pop(); ok {
		to.Push(j)
	}
}

// ahead reports whether a is tried before b. No two jobs have one Seq, so one of them is.
func ahead(a, b *api.Job) bool {
	return order.Ahead(*a, *b)
}
