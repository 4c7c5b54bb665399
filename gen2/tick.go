package gen2

import (
	"interregnum/api"
	"interregnum/heap"
)

// tick increments the clock, ends the leases that are over, and lets a pass follow.
func (g *Scheduler) tick() ([]api.Act, api.Errno) {
	if g.clock >= api.MaxClock {
		return nil, api.ErrOver
	}
	g.clock++
	released := g.expire()
	return append(released, g.pass()...), api.OK
}

// expire takes down the machines whose lease is over.
func (g *Scheduler) expire() []api.Act {
	var acts []api.Act
	for _, name := range g.leases.Due(g.clock) {
		acts = append(acts, g.down(g.machines[name])...)
	}
	return acts
}

// pass tries all jobs that wait at its beginning: what is evicted meanwhile is in a heap again, but is not tried before the next pass.
func (g *Scheduler) pass() []api.Act {
	var acts []api.Act
	for _, unit := range together(g.takeWaiting()) {
		bound, ok := g.try(unit)
		if !ok {
			g.wait(unit...)
		}
		acts = append(acts, bound...)
	}
	return acts
}

// takeWaiting takes all waiting jobs out of the heaps of the queues, in the order in which they are tried.
func (g *Scheduler) takeWaiting() []*api.Job {
	tops := heap.New(ahead)
	// The queues may come in any order: no two tops are equal.
	for _, q := range g.queues {
		q.moveTop(tops)
	}
	var taken []*api.Job
	for j, ok := tops.Pop(); ok; j, ok = tops.Pop() {
		taken = append(taken, j)
		// The job behind it in its queue is the next one of that queue.
		g.queues[j.Task.Queue].moveTop(tops)
	}
	return taken
}

// together returns the jobs in units: those of a gang together, where the first one of them is, and each other one on its own.
func together(tried []*api.Job) [][]*api.Job {
	var units [][]*api.Job
	gangs := map[string]int{}
	for _, j := range tried {
		gang := j.Task.Gang
		if at, found := gangs[gang]; found {
			units[at] = append(units[at], j)
			continue
		}
		if gang != "" {
			gangs[gang] = len(units)
		}
		units = append(units, []*api.Job{j})
	}
	return units
}

// try binds all jobs of a unit, or none, and reports which it did.
func (g *Scheduler) try(unit []*api.Job) ([]api.Act, bool) {
	first := unit[0]
	// A gang that is not complete is not tried. A job without a gang has a Size of 0, so it is always tried.
	if g.gangs[first.Task.Gang] < first.Task.Size {
		return nil, false
	}
	acts, ok := g.place(unit)
	if !ok && first.Task.Gang == "" {
		return g.preempt(first)
	}
	return acts, ok
}

// place binds all jobs of a unit, and reports whether it did: if there is no machine for one of them, it takes all of it back.
func (g *Scheduler) place(unit []*api.Job) ([]api.Act, bool) {
	var acts []api.Act
	for i, j := range unit {
		name, ok := g.best(j.Task)
		if !ok {
			for _, tried := range unit[:i] {
				g.leave(tried)
				tried.Bound--
			}
			return nil, false
		}
		acts = append(acts, g.bind(j, name))
	}
	return acts, true
}

// preempt binds a job where others can be evicted for it, and reports whether it did.
func (g *Scheduler) preempt(j *api.Job) ([]api.Act, bool) {
	name, evicted, ok := g.choose(j.Task)
	if !ok {
		return nil, false
	}
	var acts []api.Act
	for _, e := range evicted {
		acts = append(acts, g.unbind(e, api.Evict))
	}
	return append(acts, g.bind(j, name)), true
}
