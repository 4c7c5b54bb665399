package gen2

import (
	"slices"

	"interregnum/api"
	"interregnum/res"
)

// machine is a machine with what is bound to it.
type machine struct {
	api.Machine
	jobs jobs
}

// addNode adds a machine, which is up.
func (g *Scheduler) addNode(n api.Node) api.Errno {
	_, found := g.machines[n.Name]
	switch {
	case found:
		return api.ErrDup
	case len(g.machines) >= api.MaxNodes:
		return api.ErrFull
	}
	n.Labels = slices.Clone(n.Labels)
	g.putMachine(api.Machine{Node: n, Up: true, Until: g.leased()})
	return api.OK
}

// dropNode removes a machine, without which its jobs wait again.
func (g *Scheduler) dropNode(name string) ([]api.Act, api.Errno) {
	m, found := g.machines[name]
	if !found {
		return nil, api.ErrNone
	}
	acts := g.down(m)
	g.labels.Del(name)
	delete(g.machines, name)
	return acts, api.OK
}

// beat gives a machine another lease, even if it is down.
func (g *Scheduler) beat(name string) api.Errno {
	m, found := g.machines[name]
	if !found {
		return api.ErrNone
	}
	m.Until = g.leased()
	g.up(m)
	return api.OK
}

// leased returns when a lease lasts that begins now.
func (g *Scheduler) leased() int {
	return g.clock + api.Lease
}

// putMachine stores a machine to which nothing is bound yet.
func (g *Scheduler) putMachine(m api.Machine) {
	own := &machine{m, jobs{}}
	g.machines[m.Node.Name] = own
	g.labels.Put(m.Node.Name, m.Node.Labels)
	if m.Up {
		g.up(own)
	}
}

// up makes a machine one that is up, if it is not, until its lease is over.
func (g *Scheduler) up(m *machine) {
	m.Up = true
	g.leases.Set(m.Node.Name, m.Until)
	g.putFree(m)
}

// down makes a machine one that is down, and lets its jobs wait again.
func (g *Scheduler) down(m *machine) []api.Act {
	var acts []api.Act
	for _, j := range m.jobs.bySeq() {
		acts = append(acts, g.unbind(j, api.Release))
	}
	m.Up = false
	g.leases.Del(m.Node.Name)
	g.free.Del(m.Node.Name)
	return acts
}

// putFree stores what is left of a machine that is up. What is bound to it fits, so there are no errors.
func (g *Scheduler) putFree(m *machine) {
	left, _ := res.Sub(m.Node.Cap, m.jobs.needs())
	g.free.Put(m.Node.Name, left)
}

// repels reports whether a task that is bound to a machine must be apart from t, which is not.
func (m *machine) repels(t api.Task) bool {
	if t.Apart == "" {
		return false
	}
	for _, j := range m.jobs {
		if j.Task.Apart == t.Apart {
			return true
		}
	}
	return false
}
