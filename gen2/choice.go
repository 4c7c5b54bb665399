package gen2

import (
	"cmp"
	"slices"

	"interregnum/api"
	"interregnum/heap"
	"interregnum/res"
)

// best returns the name of the best machine that can run a waiting task, and whether there is one.
func (g *Scheduler) best(t api.Task) (string, bool) {
	labelled := g.labels.With(t.Wants)
	best, least, found := "", 0, false
	// The names ascend, so of machines with one score the first one stays.
	for _, name := range g.free.AtLeast(t.Need) {
		m := g.machines[name]
		if _, ok := slices.BinarySearch(labelled, name); !ok || m.repels(t) {
			continue
		}
		if score := g.score(m, t); !found || score < least {
			best, least, found = name, score, true
		}
	}
	return best, found
}

// score returns which share of a machine would be free if a task were bound to it, for which it must have room.
func (g *Scheduler) score(m *machine, t api.Task) int {
	free, _ := g.free.Get(m.Node.Name)
	left, _ := res.Sub(free, t.Need)
	return res.Share(left, m.Node.Cap)
}

// choose returns the name of the machine that can run a waiting task with the least preemption, the jobs to preempt there, and whether there is such a machine. There must be none that can run it without any.
func (g *Scheduler) choose(t api.Task) (string, []*api.Job, bool) {
	best, least, found := "", []*api.Job(nil), false
	for _, name := range g.labels.With(t.Wants) {
		evicted, ok := g.plan(g.machines[name], t)
		if ok && (!found || compare(evicted, least) < 0) {
			best, least, found = name, evicted, true
		}
	}
	return best, least, found
}

// plan returns the jobs to preempt for a machine that has the labels to run a task, in their order, and whether it can run the task without them.
func (g *Scheduler) plan(m *machine, t api.Task) ([]*api.Job, bool) {
	free, up := g.free.Get(m.Node.Name)
	if !up || m.repels(t) {
		return nil, false
	}
	weak := m.weaker(t)
	var evicted []*api.Job
	for !res.Fits(t.Need, free) {
		j, ok := weak.Pop()
		if !ok {
			return nil, false
		}
		evicted = append(evicted, j)
		// With what is returned to it, what is free stays within the Cap.
		free, _ = res.Add(free, j.Task.Need)
	}
	return evicted, true
}

// weaker returns the jobs of a machine with a lower Prio than a task. They are preempted in the inverse order of that in which they would be tried.
func (m *machine) weaker(t api.Task) *heap.Heap[*api.Job] {
	weak := heap.New(func(a, b *api.Job) bool { return ahead(b, a) })
	for _, j := range m.jobs {
		if j.Task.Prio < t.Prio {
			weak.Push(j)
		}
	}
	return weak
}

// compare returns a negative number if it is better to preempt the jobs a than the jobs b, a positive one if it is worse, and 0 if neither is; there must be some of both.
func compare(a, b []*api.Job) int {
	return cmp.Or(cmp.Compare(len(a), len(b)), cmp.Compare(last(a).Task.Prio, last(b).Task.Prio))
}

// last returns the last one of some jobs.
func last(l []*api.Job) *api.Job {
	return l[len(l)-1]
}
