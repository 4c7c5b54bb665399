package gen1

import (
	"slices"

	"interregnum/api"
)

// addNode adds a machine, which is up.
func (g *Scheduler) addNode(n api.Node) api.Errno {
	at, found := find(g.machines, n.Name, machineName)
	switch {
	case found:
		return api.ErrDup
	case len(g.machines) >= api.MaxNodes:
		return api.ErrFull
	}
	n.Labels = slices.Clone(n.Labels)
	g.machines = slices.Insert(g.machines, at, api.Machine{Node: n, Up: true, Until: g.leased()})
	return api.OK
}

// dropNode removes a machine, without which its jobs wait again.
func (g *Scheduler) dropNode(name string) ([]api.Act, api.Errno) {
	at, found := find(g.machines, name, machineName)
	if !found {
		return nil, api.ErrNone
	}
	acts := g.release(name)
	g.machines = remove(g.machines, at)
	return acts, api.OK
}

// beat gives a machine another lease, even if it is down.
func (g *Scheduler) beat(name string) api.Errno {
	at, found := find(g.machines, name, machineName)
	if !found {
		return api.ErrNone
	}
	m := &g.machines[at]
	m.Up, m.Until = true, g.leased()
	return api.OK
}

// leased returns when a lease lasts that begins now.
func (g *Scheduler) leased() int {
	return g.clock + api.Lease
}

// release lets all jobs of a machine wait again.
func (g *Scheduler) release(machine string) []api.Act {
	var acts []api.Act
	for i := range g.jobs {
		if g.jobs[i].Node == machine {
			acts = append(acts, unbind(&g.jobs[i], api.Release))
		}
	}
	return acts
}
