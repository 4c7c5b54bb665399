package gen1

import (
	"slices"

	"interregnum/api"
	"interregnum/quota"
)

// next returns the Seq of the next job.
func (g *Scheduler) next() int {
	return g.last + 1
}

// submit adds a waiting job, which is the last one by Seq.
func (g *Scheduler) submit(t api.Task) api.Errno {
	at, found := find(g.queues, t.Queue, queueName)
	switch {
	case quota.Find(g.jobs, t.Name) >= 0:
		return api.ErrDup
	case !found:
		return api.ErrNone
	case len(g.jobs) >= api.MaxTasks:
		return api.ErrFull
	}
	if err := quota.Admit(g.queues[at], g.jobs, t.Need); err != api.OK {
		return err
	}
	if g.next() >= api.MaxClock {
		return api.ErrOver
	}
	t.Wants = slices.Clone(t.Wants)
	g.jobs = append(g.jobs, api.Job{Task: t, Seq: g.next()})
	g.last++
	return api.OK
}

// cancel removes a job, be it waiting or bound.
func (g *Scheduler) cancel(name string) ([]api.Act, api.Errno) {
	at := quota.Find(g.jobs, name)
	if at < 0 {
		return nil, api.ErrNone
	}
	var acts []api.Act
	if !quota.Waits(g.jobs[at]) {
		acts = append(acts, unbind(&g.jobs[at], api.Release))
	}
	g.jobs = remove(g.jobs, at)
	return acts, api.OK
}

// finish removes a bound job. There is no act, as its machine knows that the task is done.
func (g *Scheduler) finish(name string) api.Errno {
	at := quota.Find(g.jobs, name)
	switch {
	case at < 0:
		return api.ErrNone
	case quota.Waits(g.jobs[at]):
		return api.ErrState
	}
	g.jobs = remove(g.jobs, at)
	return api.OK
}

// bind binds a job to a machine.
func bind(j *api.Job, machine string) api.Act {
	j.Node = machine
	j.Bound++
	return api.Act{Kind: api.Bind, Task: j.Task.Name, Node: machine}
}

// unbind lets a job wait again, with an act of a kind.
func unbind(j *api.Job, kind int) api.Act {
	act := api.Act{Kind: kind, Task: j.Task.Name, Node: j.Node}
	j.Node = ""
	return act
}
