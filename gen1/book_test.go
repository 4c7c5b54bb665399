package gen1_test

import (
	"maps"
	"slices"
	"strconv"
	"testing"

	"interregnum/api"
	"interregnum/gen1"
	"interregnum/oper"
	"interregnum/order"
	"interregnum/rank"
	"interregnum/victim"
)

// dice returns a function whose numbers, from 0 to below n, have no pattern, but are the same ones for the same seed.
func dice(seed uint32) func(n int) int {
	return func(n int) int {
		seed = seed*1664525 + 1013904223
		return int(seed>>8) % n
	}
}

// world tells how many names there are of each thing, and of how many choices there is one for an operation; those from 11 on are ticks.
type world struct {
	nodes, queues, tasks, choices int
}

func some(roll func(n int) int, first string, count int) string {
	return first + strconv.Itoa(roll(count))
}

func someLabels(roll func(n int) int) []api.Label {
	var l []api.Label
	for _, key := range []string{"a", "b"} {
		if roll(3) == 0 {
			l = append(l, api.Label{Key: key, Value: strconv.Itoa(roll(2))})
		}
	}
	return l
}

func (w world) someTask(roll func(n int) int) api.Task {
	k := api.Task{Name: some(roll, "t", w.tasks), Queue: some(roll, "q", w.queues), Prio: roll(4), Need: api.Res{roll(4), roll(3), roll(2)}}
	if roll(4) == 0 {
		k.Wants = someLabels(roll)
	}
	if roll(4) == 0 {
		k.Apart = some(roll, "x", 2)
	}
	if roll(3) == 0 {
		k.Gang, k.Size = some(roll, "g", 2), 2+roll(2)
	}
	if roll(40) == 0 {
		k.Size++
	}
	return k
}

// op is any operation, which now and then is not valid.
func (w world) op(roll func(n int) int) api.Op {
	switch roll(w.choices) {
	case 0:
		return addNode(some(roll, "n", w.nodes), api.Res{roll(8), roll(6), roll(6)}, someLabels(roll)...)
	case 1:
		return addQueue(some(roll, "q", w.queues), api.Res{4 + roll(20), 4 + roll(20), 4 + roll(20)})
	case 2, 3, 4, 5:
		return submit(w.someTask(roll))
	case 6, 7:
		return named(api.Beat, some(roll, "n", w.nodes))
	case 8:
		return named([]int{api.DropNode, api.DropQueue}[roll(2)], some(roll, []string{"n", "q"}[roll(2)], w.nodes))
	case 9:
		return named([]int{api.Cancel, api.Finish}[roll(2)], some(roll, "t", w.tasks))
	case 10:
		return api.Op{Kind: roll(12) - 1, Name: []string{"", "t1", "T"}[roll(3)]}
	}
	return tick()
}

// someOp is an operation in a small world, in which names often repeat.
func someOp(roll func(n int) int) api.Op {
	return world{nodes: 4, queues: 2, tasks: 9, choices: 14}.op(roll)
}

// book is a scheduler by the words of the chapter: it has maps, of which it makes lists for whatever it asks of other layers.
type book struct {
	clock, next int
	machines    map[string]api.Machine
	queues      map[string]api.Queue
	jobs        map[string]api.Job
	acts        []api.Act
}

func newBook() *book {
	return &book{next: 1, machines: map[string]api.Machine{}, queues: map[string]api.Queue{}, jobs: map[string]api.Job{}}
}

func (b *book) listMachines() []api.Machine {
	var l []api.Machine
	for _, name := range slices.Sorted(maps.Keys(b.machines)) {
		l = append(l, b.machines[name])
	}
	return l
}

func (b *book) listJobs() []api.Job {
	l := slices.Collect(maps.Values(b.jobs))
	slices.SortFunc(l, func(x, y api.Job) int { return x.Seq - y.Seq })
	return l
}

func (b *book) state() api.State {
	s := api.State{Clock: b.clock, Next: b.next, Machines: b.listMachines(), Jobs: b.listJobs()}
	for _, name := range slices.Sorted(maps.Keys(b.queues)) {
		s.Queues = append(s.Queues, b.queues[name])
	}
	return s
}

func (b *book) do(o api.Op) api.Answer {
	b.acts = nil
	if !oper.Right(o) {
		return api.Answer{Err: api.ErrArg}
	}
	err := b.perform(o)
	return api.Answer{Err: err, Acts: b.acts}
}

func (b *book) perform(o api.Op) api.Errno {
	m, isMachine := b.machines[o.Name+o.Node.Name]
	_, isQueue := b.queues[o.Name+o.Queue.Name]
	j, isJob := b.jobs[o.Name+o.Task.Name]
	switch {
	case o.Kind == api.AddNode && isMachine, o.Kind == api.AddQueue && isQueue, o.Kind == api.Submit && isJob:
		return api.ErrDup
	case o.Kind == api.AddNode && len(b.machines) == api.MaxNodes, o.Kind == api.AddQueue && len(b.queues) == api.MaxQueues:
		return api.ErrFull
	case (o.Kind == api.DropNode || o.Kind == api.Beat) && !isMachine, o.Kind == api.DropQueue && !isQueue, (o.Kind == api.Cancel || o.Kind == api.Finish) && !isJob:
		return api.ErrNone
	case o.Kind == api.Finish && j.Node == "":
		return api.ErrState
	}
	switch o.Kind {
	case api.AddNode:
		b.machines[o.Node.Name] = api.Machine{Node: o.Node, Up: true, Until: b.clock + 4}
	case api.Beat:
		m.Up, m.Until = true, b.clock+4
		b.machines[o.Name] = m
	case api.DropNode:
		b.releaseAll(o.Name)
		delete(b.machines, o.Name)
	case api.AddQueue:
		b.queues[o.Queue.Name] = o.Queue
	case api.DropQueue:
		for _, j := range b.jobs {
			if j.Task.Queue == o.Name {
				return api.ErrBusy
			}
		}
		delete(b.queues, o.Name)
	case api.Submit:
		return b.submit(o.Task)
	case api.Cancel:
		if j.Node != "" {
			b.act(api.Release, o.Name, j.Node)
		}
		delete(b.jobs, o.Name)
	case api.Finish:
		delete(b.jobs, o.Name)
	case api.Tick:
		b.tick()
	}
	return api.OK
}

func (b *book) submit(k api.Task) api.Errno {
	q, isQueue := b.queues[k.Queue]
	if !isQueue {
		return api.ErrNone
	}
	if len(b.jobs) == api.MaxTasks {
		return api.ErrFull
	}
	for i, left := range q.Quota {
		for _, j := range b.jobs {
			if j.Task.Queue == k.Queue {
				left -= j.Task.Need[i]
			}
		}
		if left < k.Need[i] {
			return api.ErrQuota
		}
	}
	b.jobs[k.Name] = api.Job{Task: k, Seq: b.next}
	b.next++
	return api.OK
}

// act does what an act tells, and notes it.
func (b *book) act(kind int, task, node string) {
	j := b.jobs[task]
	j.Node = ""
	if kind == api.Bind {
		j.Node = node
		j.Bound++
	}
	b.jobs[task] = j
	b.acts = append(b.acts, api.Act{Kind: kind, Task: task, Node: node})
}

func (b *book) releaseAll(node string) {
	for _, j := range b.listJobs() {
		if j.Node == node {
			b.act(api.Release, j.Task.Name, node)
		}
	}
}

func (b *book) tick() {
	b.clock++
	for _, m := range b.listMachines() {
		if m.Up && m.Until < b.clock {
			m.Up = false
			b.machines[m.Node.Name] = m
			b.releaseAll(m.Node.Name)
		}
	}
	jobs := b.listJobs()
	for _, unit := range order.Units(jobs) {
		var l []api.Task
		for _, i := range unit {
			l = append(l, jobs[i].Task)
		}
		if !b.bindAll(l) && l[0].Gang == "" {
			b.preempt(l[0])
		}
	}
}

// bindAll binds these tasks, and takes all of it back if it cannot go on.
func (b *book) bindAll(l []api.Task) bool {
	jobs, acts := maps.Clone(b.jobs), slices.Clone(b.acts)
	for _, k := range l {
		node, ok := rank.Best(b.listMachines(), b.listJobs(), k)
		if !ok {
			b.jobs, b.acts = jobs, acts
			return false
		}
		b.act(api.Bind, k.Name, node)
	}
	return true
}

func (b *book) preempt(k api.Task) {
	node, names, ok := victim.Choose(b.listMachines(), b.listJobs(), k)
	if !ok {
		return
	}
	for _, name := range names {
		b.act(api.Evict, name, node)
	}
	b.act(api.Bind, k.Name, node)
}

// seen counts what happened in a run: kinds of acts, errors, and lists that were full.
type seen struct {
	acts   [4]int
	errors [15]int
	full   int
}

// follow lets a scheduler and a book do the same.
func follow(t *testing.T, w world, roll func(n int) int, steps int, s *seen) {
	t.Helper()
	g, b := gen1.New(), newBook()
	for range steps {
		o := w.op(roll)
		before := g.State()
		one, two := g.Do(o), b.do(o)
		if !oper.Same(one, two) {
			t.Fatalf("Do(%+v) = %+v, not %+v, with %+v", o, one, two, before)
		}
		if !isSame(g.State(), b.state()) {
			t.Fatalf("Do(%+v) made %+v of %+v, not %+v", o, g.State(), before, b.state())
		}
		s.errors[one.Err]++
		for _, a := range one.Acts {
			s.acts[a.Kind]++
		}
		if len(before.Machines) == api.MaxNodes && len(before.Queues) == api.MaxQueues && len(before.Jobs) == api.MaxTasks {
			s.full++
		}
	}
}

func TestSmallWorlds(t *testing.T) {
	roll := dice(3)
	s := seen{}
	for range 100 {
		follow(t, world{nodes: 4, queues: 2, tasks: 9, choices: 14}, roll, 150, &s)
		follow(t, world{nodes: 5, queues: 3, tasks: 20, choices: 12}, roll, 150, &s)
	}
	for _, kind := range []int{api.Bind, api.Evict, api.Release} {
		if s.acts[kind] < 100 {
			t.Errorf("%d acts of kind %d", s.acts[kind], kind)
		}
	}
	for _, err := range []api.Errno{api.OK, api.ErrArg, api.ErrNone, api.ErrDup, api.ErrQuota, api.ErrBusy, api.ErrState} {
		if s.errors[err] < 100 {
			t.Errorf("%d times the error %d", s.errors[err], err)
		}
	}
}

func TestGreatWorlds(t *testing.T) {
	roll := dice(4)
	s := seen{}
	for range 6 {
		follow(t, world{nodes: 20, queues: 10, tasks: 400, choices: 11}, roll, 400, &s)
		follow(t, world{nodes: 40, queues: 20, tasks: 400, choices: 12}, roll, 400, &s)
	}
	if s.errors[api.ErrFull] < 100 || s.full < 100 {
		t.Errorf("%d times the error ErrFull; %d times all was full", s.errors[api.ErrFull], s.full)
	}
}
