package gen2

import (
	"cmp"
	"maps"
	"slices"

	"interregnum/api"
	"interregnum/res"
)

// jobs are jobs by the names of their tasks. All that refers to a job refers to the same one.
type jobs map[string]*api.Job

// bySeq returns the jobs in the order of their numbers.
func (l jobs) bySeq() []*api.Job {
	return slices.SortedFunc(maps.Values(l), func(a, b *api.Job) int {
		return cmp.Compare(a.Seq, b.Seq)
	})
}

// needs returns what the jobs need together. They are those of a machine or of a queue, for which this is not too much.
func (l jobs) needs() api.Res {
	sum := api.Res{}
	for _, j := range l {
		sum, _ = res.Add(sum, j.Task.Need)
	}
	return sum
}

// next returns the Seq of the next job.
func (g *Scheduler) next() int {
	return g.last + 1
}

// submit adds a waiting job.
func (g *Scheduler) submit(t api.Task) api.Errno {
	_, taken := g.jobs[t.Name]
	q, found := g.queues[t.Queue]
	switch {
	case taken:
		return api.ErrDup
	case !found:
		return api.ErrNone
	case len(g.jobs) >= api.MaxTasks:
		return api.ErrFull
	case !q.admits(t.Need):
		return api.ErrQuota
	case g.next() >= api.MaxClock:
		return api.ErrOver
	}
	t.Wants = slices.Clone(t.Wants)
	g.putJob(api.Job{Task: t, Seq: g.next()})
	g.last++
	return api.OK
}

// cancel removes a job, be it waiting or bound.
func (g *Scheduler) cancel(name string) ([]api.Act, api.Errno) {
	j, found := g.jobs[name]
	if !found {
		return nil, api.ErrNone
	}
	var acts []api.Act
	if !waits(j) {
		acts = append(acts, act(api.Release, j))
	}
	g.remove(j)
	return acts, api.OK
}

// finish removes a bound job. There is no act, as its machine knows that the task is done.
func (g *Scheduler) finish(name string) api.Errno {
	j, found := g.jobs[name]
	switch {
	case !found:
		return api.ErrNone
	case waits(j):
		return api.ErrState
	}
	g.remove(j)
	return api.OK
}

// putJob stores a job, whose queue and machine must be stored already.
func (g *Scheduler) putJob(j api.Job) {
	own, name := &j, j.Task.Name
	g.jobs[name] = own
	g.queues[j.Task.Queue].jobs[name] = own
	g.gangs[j.Task.Gang]++
	if waits(own) {
		g.wait(own)
	} else {
		g.enter(own)
	}
}

// remove removes a job from all that refers to it.
func (g *Scheduler) remove(j *api.Job) {
	name, gang, q := j.Task.Name, j.Task.Gang, g.queues[j.Task.Queue]
	if waits(j) {
		q.waiting.Remove(func(x *api.Job) bool { return x == j })
	} else {
		g.leave(j)
	}
	delete(g.jobs, name)
	delete(q.jobs, name)
	g.gangs[gang]--
	if g.gangs[gang] == 0 {
		delete(g.gangs, gang)
	}
}

// bind binds a job, which is in no heap, to the machine with a name.
func (g *Scheduler) bind(j *api.Job, name string) api.Act {
	j.Node = name
	j.Bound++
	g.enter(j)
	return act(api.Bind, j)
}

// unbind lets a bound job wait again, with an act of a kind.
func (g *Scheduler) unbind(j *api.Job, kind int) api.Act {
	done := act(kind, j)
	g.leave(j)
	g.wait(j)
	return done
}

// enter makes a bound job one of those of its machine.
func (g *Scheduler) enter(j *api.Job) {
	m := g.machines[j.Node]
	m.jobs[j.Task.Name] = j
	g.putFree(m)
}

// leave takes a bound job from its machine.
func (g *Scheduler) leave(j *api.Job) {
	m := g.machines[j.Node]
	delete(m.jobs, j.Task.Name)
	g.putFree(m)
	j.Node = ""
}

// wait lets jobs without a machine wait in the heaps of their queues.
func (g *Scheduler) wait(l ...*api.Job) {
	for _, j := range l {
		g.queues[j.Task.Queue].waiting.Push(j)
	}
}

// waits reports whether a job waits.
func waits(j *api.Job) bool {
	return j.Node == ""
}

// act returns an act of a kind with a bound job.
func act(kind int, j *api.Job) api.Act {
	return api.Act{Kind: kind, Task: j.Task.Name, Node: j.Node}
}
