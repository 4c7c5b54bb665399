package schema

import (
	"interregnum/api"
	"interregnum/model"
	"interregnum/pack"
)

// listed returns the encoding of a valid state in the first schema.
func listed(s api.State) []byte {
	b := head(asLists, s)
	b = appendList(b, s.Machines, machine)
	b = appendList(b, s.Queues, queue)
	return appendList(b, s.Jobs, func(j api.Job) []byte {
		return pack.PutText(job(j), j.Node)
	})
}

// grouped returns the encoding of a valid state in the second schema, in which jobs follow what they belong to: their machines, or, while they wait, their queues.
func grouped(s api.State) []byte {
	b := head(asGroups, s)
	b = appendList(b, s.Machines, func(m api.Machine) []byte {
		bound := selected(s.Jobs, func(j api.Job) bool { return j.Node == m.Node.Name })
		return appendList(machine(m), bound, job)
	})
	return appendList(b, s.Queues, func(q api.Queue) []byte {
		waiting := selected(s.Jobs, func(j api.Job) bool { return j.Node == "" && j.Task.Queue == q.Name })
		return appendList(queue(q), waiting, job)
	})
}

// selected returns the jobs for which fits returns true, in the order of jobs.
func selected(jobs []api.Job, fits func(j api.Job) bool) []api.Job {
	var l []api.Job
	for _, j := range jobs {
		if fits(j) {
			l = append(l, j)
		}
	}
	return l
}

// head returns what the encodings of both schemas begin with.
func head(kind int, s api.State) []byte {
	return putNumbers(nil, kind, s.Clock, s.Next)
}

func machine(m api.Machine) []byte {
	up := 0
	if m.Up {
		up = 1
	}
	return putNumbers(model.PutNode(nil, m.Node), up, m.Until)
}

func queue(q api.Queue) []byte {
	return model.PutQueue(nil, q)
}

// job returns the encoding of a job, in which its machine is not named.
func job(j api.Job) []byte {
	return putNumbers(model.PutTask(nil, j.Task), j.Seq, j.Bound)
}

// putNumbers returns b followed by the encodings of numbers, which must not be negative.
func putNumbers(b []byte, numbers ...int) []byte {
	for _, n := range numbers {
		b = pack.Put(b, uint64(n))
	}
	return b
}

// appendList appends the number of elements of l, and the encoding of each of them.
func appendList[E any](b []byte, l []E, code func(E) []byte) []byte {
	b = putNumbers(b, len(l))
	for _, e := range l {
		b = append(b, code(e)...)
	}
	return b
}
