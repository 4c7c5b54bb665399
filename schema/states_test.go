package schema_test

import (
	"cmp"
	"slices"
	"strconv"
	"strings"

	"interregnum/api"
	"interregnum/gen1"
	"interregnum/pack"
)

var (
	a1 = api.Label{Key: "a", Value: "1"}
	b2 = api.Label{Key: "b", Value: "2"}
)

// blank is the state of a new scheduler.
func blank() api.State {
	return api.State{Next: 1}
}

// rich is a state in which all fields are used: b and c are bound to m, a to k, and d, e, f wait.
func rich() api.State {
	return api.State{
		Clock: 7,
		Next:  300,
		Machines: []api.Machine{
			{Node: api.Node{Name: "k", Cap: api.Res{5, 5, 5}, Labels: []api.Label{a1, b2}}, Up: true, Until: 9},
			{Node: api.Node{Name: "l"}, Until: 3},
			{Node: api.Node{Name: "m", Cap: api.Res{3, 3, 3}, Labels: []api.Label{b2}}, Up: true, Until: 11},
		},
		Queues: []api.Queue{{Name: "o"}, {Name: "p", Quota: api.Res{3, 2, 3}}, {Name: "q", Quota: api.Res{9, 9, 9}}},
		Jobs: []api.Job{
			{Task: api.Task{Name: "d", Queue: "q", Prio: 1, Need: api.Res{1, 1, 1}, Gang: "g", Size: 2}, Seq: 2, Bound: 3},
			{Task: api.Task{Name: "b", Queue: "p", Prio: 3, Need: api.Res{1, 2, 3}, Wants: []api.Label{b2}, Apart: "x"}, Seq: 4, Node: "m", Bound: 1},
			{Task: api.Task{Name: "c", Queue: "p", Prio: 9, Need: api.Res{2, 0, 0}, Apart: "y"}, Seq: 5, Node: "m", Bound: 2},
			{Task: api.Task{Name: "f", Queue: "p", Need: api.Res{}}, Seq: 6},
			{Task: api.Task{Name: "a", Queue: "q", Need: api.Res{5, 0, 1}, Wants: []api.Label{a1, b2}, Apart: "x"}, Seq: 8, Node: "k", Bound: 1},
			{Task: api.Task{Name: "e", Queue: "q", Wants: []api.Label{a1}}, Seq: 299},
		},
	}
}

// long is a name of the greatest length, of which there is one for each number from 0 to below 100.
func long(i int) string {
	return "0123456789abcd" + strconv.Itoa(i/10) + strconv.Itoa(i%10)
}

// longLabels are as many labels as there can be, of the greatest length.
func longLabels() []api.Label {
	var l []api.Label
	for i := range api.MaxLabels {
		l = append(l, api.Label{Key: long(i), Value: long(i)})
	}
	return l
}

// full is a state with as many things as there can be, each as great as it can be; three of four jobs are bound.
func full() api.State {
	s := api.State{Clock: api.MaxClock, Next: api.MaxClock}
	most := api.Res{api.MaxRes, api.MaxRes, api.MaxRes}
	for i := range api.MaxNodes {
		s.Machines = append(s.Machines, api.Machine{Node: api.Node{Name: long(i), Cap: most, Labels: longLabels()}, Up: true, Until: api.MaxClock + api.Lease})
	}
	for i := range api.MaxQueues {
		s.Queues = append(s.Queues, api.Queue{Name: long(i), Quota: most})
	}
	for i := range api.MaxTasks {
		k := api.Task{Name: long(i), Queue: long(i % api.MaxQueues), Prio: api.MaxPrio, Wants: longLabels(), Apart: long(i), Gang: long(i), Size: api.MaxGang}
		if i < api.MaxQueues {
			k.Need = most
		}
		j := api.Job{Task: k, Seq: api.MaxClock - api.MaxTasks + i, Bound: 1 << 40}
		if i%4 != 3 {
			j.Node = long(i % api.MaxNodes)
		}
		s.Jobs = append(s.Jobs, j)
	}
	return s
}

// samples are states that are valid.
func samples() []api.State {
	return []api.State{blank(), rich(), full()}
}

// code is what layers 1 and 5 say of numbers, strings, flags, vectors and labels, be they valid or not.
func code(parts ...any) string {
	var b []byte
	for _, part := range parts {
		switch part := part.(type) {
		case int:
			b = pack.Put(b, uint64(part))
		case uint64:
			b = pack.Put(b, part)
		case string:
			b = pack.PutText(b, part)
		case bool:
			n := uint64(0)
			if part {
				n = 1
			}
			b = pack.Put(b, n)
		case api.Res:
			for _, n := range part {
				b = pack.Put(b, uint64(n))
			}
		case []api.Label:
			b = pack.Put(b, uint64(len(part)))
			for _, l := range part {
				b = pack.PutText(pack.PutText(b, l.Key), l.Value)
			}
		}
	}
	return string(b)
}

func machineCode(m api.Machine) string {
	return code(m.Node.Name, m.Node.Cap, m.Node.Labels, m.Up, m.Until)
}

func queueCode(q api.Queue) string {
	return code(q.Name, q.Quota)
}

func jobCode(j api.Job) string {
	k := j.Task
	return code(k.Name, k.Queue, k.Prio, k.Need, k.Wants, k.Apart, k.Gang, k.Size, j.Seq, j.Bound)
}

// first is what the chapter says of the first schema, be s valid or not.
func first(s api.State) string {
	b := code(1, s.Clock, s.Next, len(s.Machines))
	for _, m := range s.Machines {
		b += machineCode(m)
	}
	b += code(len(s.Queues))
	for _, q := range s.Queues {
		b += queueCode(q)
	}
	b += code(len(s.Jobs))
	for _, j := range s.Jobs {
		b += jobCode(j) + code(j.Node)
	}
	return b
}

// group is the number of some jobs, and their encodings.
func group(jobs []api.Job, belongs func(j api.Job) bool) string {
	count, b := 0, ""
	for _, j := range jobs {
		if belongs(j) {
			count++
			b += jobCode(j)
		}
	}
	return code(count) + b
}

// second is what the chapter says of the second schema, be s valid or not.
func second(s api.State) string {
	b := code(2, s.Clock, s.Next, len(s.Machines))
	for _, m := range s.Machines {
		b += machineCode(m) + group(s.Jobs, func(j api.Job) bool { return j.Node == m.Node.Name })
	}
	b += code(len(s.Queues))
	for _, q := range s.Queues {
		b += queueCode(q) + group(s.Jobs, func(j api.Job) bool { return j.Node == "" && j.Task.Queue == q.Name })
	}
	return b
}

// cursor reads what is encoded, and panics if it cannot.
type cursor struct {
	b  []byte
	at int
}

func (c *cursor) number() int {
	n, next, err := pack.Take(c.b, c.at)
	if err != api.OK || n > 1<<62 {
		panic("no number")
	}
	c.at = next
	return int(n)
}

func (c *cursor) text() string {
	s, next, err := pack.TakeText(c.b, c.at, len(c.b))
	if err != api.OK {
		panic("no string")
	}
	c.at = next
	return s
}

func (c *cursor) vector() api.Res {
	return api.Res{c.number(), c.number(), c.number()}
}

func (c *cursor) labels() []api.Label {
	var l []api.Label
	for range c.number() {
		l = append(l, api.Label{Key: c.text(), Value: c.text()})
	}
	return l
}

func (c *cursor) machine() api.Machine {
	return api.Machine{Node: api.Node{Name: c.text(), Cap: c.vector(), Labels: c.labels()}, Up: c.number() > 0, Until: c.number()}
}

func (c *cursor) queue() api.Queue {
	return api.Queue{Name: c.text(), Quota: c.vector()}
}

func (c *cursor) job() api.Job {
	return api.Job{Task: api.Task{Name: c.text(), Queue: c.text(), Prio: c.number(), Need: c.vector(), Wants: c.labels(), Apart: c.text(), Gang: c.text(), Size: c.number()},
		Seq: c.number(), Bound: c.number()}
}

func (c *cursor) jobs(of string) []api.Job {
	var l []api.Job
	for range c.number() {
		j := c.job()
		j.Node = of
		l = append(l, j)
	}
	return l
}

func (c *cursor) state(kind int) api.State {
	s := api.State{Clock: c.number(), Next: c.number()}
	for range c.number() {
		s.Machines = append(s.Machines, c.machine())
		if kind == 2 {
			s.Jobs = append(s.Jobs, c.jobs(s.Machines[len(s.Machines)-1].Node.Name)...)
		}
	}
	for range c.number() {
		s.Queues = append(s.Queues, c.queue())
		if kind == 2 {
			s.Jobs = append(s.Jobs, c.jobs("")...)
		}
	}
	if kind == 2 {
		slices.SortFunc(s.Jobs, func(a, b api.Job) int { return cmp.Compare(a.Seq, b.Seq) })
		return s
	}
	for range c.number() {
		j := c.job()
		j.Node = c.text()
		s.Jobs = append(s.Jobs, j)
	}
	return s
}

// decoded is what the document says of b: the state with this encoding, and its schema, or that there is none.
func decoded(b []byte) (s api.State, kind int, ok bool) {
	defer func() {
		if recover() != nil {
			s, kind, ok = api.State{}, 0, false
		}
	}()
	c := cursor{b: b}
	kind = c.number()
	s = c.state(kind)
	if gen1.Right(s) && (kind == 1 && first(s) == string(b) || kind == 2 && second(s) == string(b)) {
		return s, kind, true
	}
	return api.State{}, 0, false
}

func sameMachine(a, b api.Machine) bool {
	return machineCode(a) == machineCode(b)
}

func sameJob(a, b api.Job) bool {
	return jobCode(a) == jobCode(b) && a.Node == b.Node
}

// same tells whether two states are the same one; a nil list is like an empty one.
func same(a, b api.State) bool {
	return a.Clock == b.Clock && a.Next == b.Next && slices.EqualFunc(a.Machines, b.Machines, sameMachine) &&
		slices.Equal(a.Queues, b.Queues) && slices.EqualFunc(a.Jobs, b.Jobs, sameJob)
}

// isZero tells whether s is a state without anything.
func isZero(s api.State) bool {
	return s.Clock == 0 && s.Next == 0 && len(s.Machines)+len(s.Queues)+len(s.Jobs) == 0
}

// dice returns a function whose numbers, from 0 to below n, have no pattern, but are the same ones for the same seed.
func dice(seed uint32) func(n int) int {
	return func(n int) int {
		seed = seed*1664525 + 1013904223
		return int(seed>>8) % n
	}
}

func some(roll func(n int) int, letter string, count int) string {
	return letter + strconv.Itoa(roll(count))
}

func someLabels(roll func(n int) int) []api.Label {
	var l []api.Label
	for _, key := range []string{"a", "b"} {
		if roll(2) == 0 {
			l = append(l, api.Label{Key: key, Value: strconv.Itoa(roll(2))})
		}
	}
	return l
}

// someTask is a task with a name and a queue of a few.
func someTask(roll func(n int) int) api.Task {
	k := api.Task{Name: some(roll, "t", 40), Queue: some(roll, "q", 4), Prio: roll(10), Need: api.Res{roll(4), roll(300), roll(2)}}
	if roll(4) == 0 {
		k.Wants = someLabels(roll)
	}
	if roll(4) == 0 {
		k.Apart = some(roll, "x", 3)
	}
	if roll(4) == 0 {
		k.Gang, k.Size = some(roll, "g", 2), 2+roll(3)
	}
	return k
}

func someOp(roll func(n int) int) api.Op {
	switch kind := roll(16); kind {
	case 0, 1:
		return api.Op{Kind: api.AddNode, Node: api.Node{Name: some(roll, "n", 5), Cap: api.Res{roll(20), roll(2000), roll(20)}, Labels: someLabels(roll)}}
	case 2, 3:
		return api.Op{Kind: api.AddQueue, Queue: api.Queue{Name: some(roll, "q", 4), Quota: api.Res{roll(60), roll(9000), roll(60)}}}
	case 4:
		return api.Op{Kind: api.Cancel, Name: some(roll, "t", 40)}
	case 5:
		return api.Op{Kind: api.Beat, Name: some(roll, "n", 5)}
	case 6, 7:
		return api.Op{Kind: api.Tick}
	}
	return api.Op{Kind: api.Submit, Task: someTask(roll)}
}

// someState is a state that comes of some operations.
func someState(roll func(n int) int) api.State {
	g := gen1.New()
	for range roll(200) {
		g.Do(someOp(roll))
	}
	return g.State()
}

// repeated is n times the byte 255.
func repeated(n int) string {
	return strings.Repeat("\xff", n)
}
