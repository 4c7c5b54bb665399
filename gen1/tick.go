package gen1

import (
	"slices"

	"interregnum/api"
	"interregnum/order"
	"interregnum/quota"
	"interregnum/rank"
	"interregnum/victim"
)

// tick increments the clock, ends the leases that are over, and lets a pass follow.
func (g *Scheduler) tick() ([]api.Act, api.Errno) {
	if g.clock >= api.MaxClock {
		return nil, api.ErrOver
	}
	g.clock++
	released := g.expire()
	return append(released, g.pass()...), api.OK
}

// expire takes down the machines whose lease is over.
func (g *Scheduler) expire() []api.Act {
	var acts []api.Act
	for i := range g.machines {
		m := &g.machines[i]
		if m.Up && m.Until < g.clock {
			m.Up = false
			acts = append(acts, g.release(m.Node.Name)...)
		}
	}
	return acts
}

// pass tries all units of waiting jobs. What is evicted meanwhile is in no unit before the next pass.
func (g *Scheduler) pass() []api.Act {
	var acts []api.Act
	for _, unit := range order.Units(g.jobs) {
		bound, ok := g.place(unit)
		// A unit without a gang is a single task; for those of a gang nothing is evicted.
		if first := unit[0]; !ok && g.jobs[first].Task.Gang == "" {
			bound = g.preempt(first)
		}
		acts = append(acts, bound...)
	}
	return acts
}

// place binds all jobs of a unit, and reports whether it did: if there is no machine for one of them, none is bound.
func (g *Scheduler) place(unit []int) ([]api.Act, bool) {
	tried := slices.Clone(g.jobs)
	var acts []api.Act
	for _, i := range unit {
		machine, ok := rank.Best(g.machines, tried, tried[i].Task)
		if !ok {
			return nil, false
		}
		acts = append(acts, bind(&tried[i], machine))
	}
	g.jobs = tried
	return acts, true
}

// preempt binds the job at an index where others can be evicted for it.
func (g *Scheduler) preempt(at int) []api.Act {
	machine, names, ok := victim.Choose(g.machines, g.jobs, g.jobs[at].Task)
	if !ok {
		return nil
	}
	var acts []api.Act
	for _, name := range names {
		acts = append(acts, unbind(&g.jobs[quota.Find(g.jobs, name)], api.Evict))
	}
	return append(acts, bind(&g.jobs[at], machine))
}
