package schema

import (
	"cmp"
	"slices"

	"interregnum/api"
	"interregnum/model"
	"interregnum/pack"
)

// reader is the state of reading: the bytes, the offset of what is read next, and whether something could not be read.
// After that its methods read nothing more, and return zero values.
type reader struct {
	b      []byte
	at     int
	failed bool
}

// state reads what follows the number of a schema. What is read need not be valid, nor be all that follows.
func (r *reader) state(kind int) api.State {
	var s api.State
	s.Clock = r.number()
	s.Next = r.number()
	switch kind {
	case asLists:
		r.lists(&s)
	case asGroups:
		r.groups(&s)
	default:
		r.failed = true
	}
	return s
}

// lists reads the lists of the first schema into s.
func (r *reader) lists(s *api.State) {
	s.Machines = takeList(r, api.MaxNodes, r.machine)
	s.Queues = takeList(r, api.MaxQueues, r.queue)
	s.Jobs = takeList(r, api.MaxTasks, func() api.Job {
		j := r.job()
		j.Node = r.text()
		return j
	})
}

// groups reads the groups of the second schema into s.
func (r *reader) groups(s *api.State) {
	s.Machines = takeList(r, api.MaxNodes, func() api.Machine {
		m := r.machine()
		s.Jobs = append(s.Jobs, r.group(m.Node.Name)...)
		return m
	})
	s.Queues = takeList(r, api.MaxQueues, func() api.Queue {
		q := r.queue()
		s.Jobs = append(s.Jobs, r.group("")...)
		return q
	})
	slices.SortFunc(s.Jobs, func(a, b api.Job) int {
		return cmp.Compare(a.Seq, b.Seq)
	})
}

// group reads jobs that are all bound to the machine node, or, without a name, all wait.
func (r *reader) group(node string) []api.Job {
	return takeList(r, api.MaxTasks, func() api.Job {
		j := r.job()
		j.Node = node
		return j
	})
}

func (r *reader) machine() api.Machine {
	var m api.Machine
	m.Node = take(r, model.TakeNode)
	m.Up = r.number() == 1
	m.Until = r.number()
	return m
}

func (r *reader) queue() api.Queue {
	return take(r, model.TakeQueue)
}

// job reads a job whose machine is not named.
func (r *reader) job() api.Job {
	var j api.Job
	j.Task = take(r, model.TakeTask)
	j.Seq = r.number()
	j.Bound = r.number()
	return j
}

func (r *reader) text() string {
	return take(r, func(b []byte, at int) (string, int, api.Errno) {
		return pack.TakeText(b, at, api.MaxName)
	})
}

// number reads a number. One that is not an int becomes another one, whose encoding is different.
func (r *reader) number() int {
	return int(take(r, pack.Take))
}

// count reads the number of elements of a list, of which a state has at most most.
func (r *reader) count(most uint64) int {
	n := take(r, pack.Take)
	if n > most {
		r.failed = true
		return 0
	}
	return int(n)
}

// takeList reads the number of elements of a list, of at most most, and these.
func takeList[E any](r *reader, most uint64, element func() E) []E {
	var l []E
	for range r.count(most) {
		l = append(l, element())
	}
	return l
}

// take reads what one reads at an offset, unless something could not be read before.
func take[E any](r *reader, one func(b []byte, at int) (E, int, api.Errno)) E {
	if r.failed {
		var none E
		return none
	}
	e, next, err := one(r.b, r.at)
	r.at, r.failed = next, err != api.OK
	return e
}
