package gen1

import (
	"cmp"
	"slices"

	"interregnum/api"
	"interregnum/feas"
	"interregnum/ident"
	"interregnum/model"
	"interregnum/quota"
	"interregnum/res"
)

// maxBound is how often a job can be bound.
const maxBound = 1 << 40

// Right reports whether s is valid.
func Right(s api.State) bool {
	return isWithin(s.Clock, 0, api.MaxClock) && isWithin(s.Next, 1, api.MaxClock) &&
		areMachines(s.Machines) && areQueues(s.Queues) && areJobs(s.Jobs, s.Next) &&
		keepQuotas(s.Jobs, s.Queues) && areAtHome(s.Jobs, s.Machines)
}

func isWithin(n, least, most int) bool {
	return least <= n && n <= most
}

// ascend reports whether the keys of the elements of l are strictly ascending.
func ascend[E any, K cmp.Ordered](l []E, keyOf func(E) K) bool {
	for i := 1; i < len(l); i++ {
		if keyOf(l[i-1]) >= keyOf(l[i]) {
			return false
		}
	}
	return true
}

// areMachines reports whether a state can have these machines, whatever is bound to them.
func areMachines(machines []api.Machine) bool {
	if len(machines) > api.MaxNodes || !ascend(machines, machineName) {
		return false
	}
	for _, m := range machines {
		if !model.Node(m.Node) || !isWithin(m.Until, 0, api.MaxClock+api.Lease) {
			return false
		}
	}
	return true
}

// areQueues reports whether a state can have these queues, whatever they use.
func areQueues(queues []api.Queue) bool {
	if len(queues) > api.MaxQueues || !ascend(queues, queueName) {
		return false
	}
	for _, q := range queues {
		if !model.Queue(q) {
			return false
		}
	}
	return true
}

// areJobs reports whether a state can have these jobs, whatever their queues and machines are.
func areJobs(jobs []api.Job, next int) bool {
	if len(jobs) > api.MaxTasks || !ascend(jobs, func(j api.Job) int { return j.Seq }) {
		return false
	}
	for i, j := range jobs {
		if !model.Task(j.Task) || !isWithin(j.Seq, 1, next-1) || !isWithin(j.Bound, 0, maxBound) {
			return false
		}
		// The first job with this name must be this one.
		if quota.Find(jobs, j.Task.Name) != i {
			return false
		}
	}
	return true
}

// keepQuotas reports whether jobs have queues, and what these use fits their quotas.
func keepQuotas(jobs []api.Job, queues []api.Queue) bool {
	for _, j := range jobs {
		if _, found := find(queues, j.Task.Queue, queueName); !found {
			return false
		}
	}
	for _, q := range queues {
		used, err := quota.Used(jobs, q.Name)
		if err != api.OK || !res.Fits(used, q.Quota) {
			return false
		}
	}
	return true
}

// areAtHome reports whether jobs that are bound have machines, which can run all that is bound to them.
func areAtHome(jobs []api.Job, machines []api.Machine) bool {
	for _, j := range jobs {
		if quota.Waits(j) {
			continue
		}
		at, found := find(machines, j.Node, machineName)
		if !found || !machines[at].Up || j.Bound < 1 {
			return false
		}
	}
	for _, m := range machines {
		if !bears(m, jobs) {
			return false
		}
	}
	return true
}

// bears reports whether all that is bound to m can run there together.
func bears(m api.Machine, jobs []api.Job) bool {
	if _, err := feas.Free(m, jobs); err != api.OK {
		return false
	}
	var aparts []string
	for _, j := range jobs {
		if j.Node != m.Node.Name {
			continue
		}
		if !ident.Has(m.Node.Labels, j.Task.Wants) {
			return false
		}
		if apart := j.Task.Apart; apart != "" {
			if slices.Contains(aparts, apart) {
				return false
			}
			aparts = append(aparts, apart)
		}
	}
	return true
}
