package gen2_test

import (
	"slices"
	"strconv"
	"testing"

	"interregnum/api"
	"interregnum/gen1"
	"interregnum/gen2"
	"interregnum/oper"
)

// dice returns a function whose numbers, from 0 to below n, have no pattern, but are the same ones for the same seed.
func dice(seed uint32) func(n int) int {
	return func(n int) int {
		seed = seed*1664525 + 1013904223
		return int(seed>>8) % n
	}
}

// world tells how many names there are of each thing, how great machines are, and how often there is which kind of operation, by the kinds.
type world struct {
	nodes, queues, tasks, room int
	often                      [api.Tick + 1]int
}

var (
	// In a small world names often repeat, and most kinds of operations are rejected now and then.
	small = world{nodes: 4, queues: 2, tasks: 12, room: 8, often: [...]int{1, 2, 1, 2, 1, 10, 2, 2, 5, 8}}
	// In a crowd there is room for few of those that wait.
	crowd = world{nodes: 3, queues: 4, tasks: 60, room: 14, often: [...]int{0, 1, 1, 2, 0, 16, 1, 2, 7, 8}}
	// A great world reaches all limits.
	great = world{nodes: 24, queues: 11, tasks: 300, room: 9, often: [...]int{0, 6, 1, 4, 1, 30, 2, 2, 9, 3}}
)

func some(roll func(n int) int, first string, count int) string {
	return first + strconv.Itoa(roll(count))
}

func someLabels(roll func(n int) int) []api.Label {
	var l []api.Label
	for _, key := range []string{"a", "b"} {
		if roll(2) == 0 {
			l = append(l, api.Label{Key: key, Value: strconv.Itoa(roll(2))})
		}
	}
	return l
}

func (w world) task(roll func(n int) int) api.Task {
	k := api.Task{Name: some(roll, "t", w.tasks), Queue: some(roll, "q", w.queues), Prio: roll(5), Need: api.Res{roll(5), roll(3), roll(2)}}
	if roll(5) == 0 {
		k.Wants = someLabels(roll)
	}
	if roll(4) == 0 {
		k.Apart = some(roll, "x", 2)
	}
	if roll(3) == 0 {
		k.Gang, k.Size = some(roll, "g", 3), 2+roll(2)
	}
	return k
}

// op is any operation, which now and then is not valid.
func (w world) op(roll func(n int) int) api.Op {
	total := 0
	for _, n := range w.often {
		total += n
	}
	kind, left := 0, roll(total)
	for left >= w.often[kind] {
		left -= w.often[kind]
		kind++
	}
	switch kind {
	case 0:
		return api.Op{Kind: roll(12) - 1, Name: []string{"", "t1", "T"}[roll(3)]}
	case api.AddNode:
		return addNode(some(roll, "n", w.nodes), api.Res{roll(w.room), roll(w.room), roll(w.room)}, someLabels(roll)...)
	case api.AddQueue:
		return addQueue(some(roll, "q", w.queues), api.Res{4 + roll(30), 4 + roll(30), 4 + roll(30)})
	case api.Submit:
		return api.Op{Kind: kind, Task: w.task(roll)}
	case api.DropNode, api.Beat:
		return named(kind, some(roll, "n", w.nodes))
	case api.DropQueue:
		return named(kind, some(roll, "q", w.queues))
	case api.Cancel, api.Finish:
		return named(kind, some(roll, "t", w.tasks))
	}
	return tick()
}

// seen counts what happened in a run: acts by their kinds, errors, how many acts there were in one answer, and how often all lists were full.
type seen struct {
	acts   [4]int
	errors [15]int
	most   int
	full   int
}

func (s *seen) count(a api.Answer, before api.State) {
	s.errors[a.Err]++
	for _, act := range a.Acts {
		s.acts[act.Kind]++
	}
	s.most = max(s.most, len(a.Acts))
	if len(before.Machines) == api.MaxNodes && len(before.Queues) == api.MaxQueues && len(before.Jobs) == api.MaxTasks {
		s.full++
	}
}

func TestBothGenerationsReturnTheSame(t *testing.T) {
	roll := dice(202)
	s := seen{}
	for range 150 {
		for _, where := range []world{small, crowd} {
			w := begun(t)
			for range 150 {
				before := w.first.State()
				s.count(w.do(where.op(roll)), before)
			}
		}
	}
	for _, kind := range []int{api.Bind, api.Evict, api.Release} {
		if s.acts[kind] < 200 {
			t.Errorf("%d acts of kind %d", s.acts[kind], kind)
		}
	}
	for _, err := range []api.Errno{api.OK, api.ErrArg, api.ErrNone, api.ErrDup, api.ErrQuota, api.ErrBusy, api.ErrState} {
		if s.errors[err] < 100 {
			t.Errorf("%d times the error %d", s.errors[err], err)
		}
	}
	if s.most < 8 {
		t.Errorf("at most %d acts in an answer", s.most)
	}
}

func TestBothGenerationsReturnTheSameAtTheLimits(t *testing.T) {
	roll := dice(203)
	s := seen{}
	for range 10 {
		w := begun(t)
		for range 500 {
			before := w.first.State()
			s.count(w.do(great.op(roll)), before)
		}
	}
	if s.errors[api.ErrFull] < 100 || s.full < 100 {
		t.Errorf("%d times the error ErrFull; %d times all was full", s.errors[api.ErrFull], s.full)
	}
}

func TestBothGenerationsContinueForEachOther(t *testing.T) {
	roll := dice(204)
	for _, where := range []world{small, crowd, great} {
		for range 20 {
			w := begun(t)
			for range 100 {
				w.do(where.op(roll))
				if roll(3) > 0 {
					continue
				}
				first, err := gen1.Load(w.other.State())
				other, too := gen2.Load(w.first.State())
				if err != api.OK || too != api.OK {
					t.Fatalf("Load(%+v): %d, %d", w.first.State(), err, too)
				}
				w.first, w.other = first, other
				w.has(first.State())
			}
		}
	}
}

// scheduler is what both generations are.
type scheduler interface {
	Do(o api.Op) api.Answer
	State() api.State
}

func TestItCannotBeObservedWhichGenerationDidWhat(t *testing.T) {
	roll := dice(205)
	switches := 0
	for range 40 {
		var relay scheduler = gen1.New()
		alone := gen1.New()
		for range 200 {
			o := small.op(roll)
			if want, got := alone.Do(o), relay.Do(o); !oper.Same(want, got) {
				t.Fatalf("Do(%+v) = %+v, not %+v", o, got, want)
			}
			s := relay.State()
			if !same(s, alone.State()) {
				t.Fatalf("after Do(%+v), the state is %+v, not %+v", o, s, alone.State())
			}
			if roll(8) > 0 {
				continue
			}
			switches++
			first, err := gen1.Load(s)
			relay = first
			if switches%2 == 1 {
				relay, err = gen2.Load(s)
			}
			if err != api.OK {
				t.Fatalf("Load(%+v): %d", s, err)
			}
		}
	}
	if switches < 100 {
		t.Errorf("only %d switches", switches)
	}
}

// shaken is a state with other numbers, which is valid more often than not.
func shaken(roll func(n int) int, s api.State) api.State {
	s.Clock = []int{0, s.Clock, 1000, api.MaxClock - 1, api.MaxClock}[roll(5)]
	s.Next = []int{s.Next, s.Next + roll(5), 1000, api.MaxClock - 1, api.MaxClock}[roll(5)]
	for i := range s.Machines {
		m := &s.Machines[i]
		m.Until = []int{0, m.Until, s.Clock - 1, s.Clock, s.Clock + 1, s.Clock + roll(9), api.MaxClock + api.Lease}[roll(7)]
		m.Up = roll(12) > 0
	}
	for i := range s.Jobs {
		j := &s.Jobs[i]
		switch roll(4) {
		case 0:
			j.Node = ""
		case 1:
			j.Bound = []int{j.Bound, 1 << 40, roll(9)}[roll(3)]
		}
	}
	return s
}

func TestBothGenerationsLoadTheSameStates(t *testing.T) {
	roll := dice(206)
	rejected := 0
	for range 60 {
		w := begun(t)
		for range 60 {
			w.do(crowd.op(roll))
		}
		for range 10 {
			s := shaken(roll, w.first.State())
			first, err := gen1.Load(s)
			other, too := gen2.Load(s)
			if err != too || (other == nil) != (first == nil) {
				t.Fatalf("Load(%+v): %v, %d, not %v, %d", s, other, too, first, err)
			}
			if err != api.OK {
				rejected++
				continue
			}
			v := twins{t, first, other}
			v.has(s)
			for range 20 {
				v.do(crowd.op(roll))
			}
		}
	}
	if rejected < 50 || rejected > 400 {
		t.Errorf("%d of 600 states are not valid", rejected)
	}
}

// TestEachSequenceOfSomeOperations tries all sequences of a few operations that meet in one machine.
func TestEachSequenceOfSomeOperations(t *testing.T) {
	ops := []api.Op{
		tick(), submit("a", 1, 3), submit("b", 2, 2), submit("c", 3, 2, in("g", 2), of("p")), submit("d", 1, 1, in("g", 2), apart("x")),
		named(api.Finish, "b"), named(api.Cancel, "c"), named(api.DropNode, "n"), addNode("m", api.Res{5, 0, 0}),
	}
	var try func(s api.State, depth int)
	try = func(s api.State, depth int) {
		for _, o := range ops {
			w := loaded(t, s)
			if a := w.do(o); a.Err == api.OK && depth > 1 {
				try(w.other.State(), depth-1)
			}
		}
	}
	try(begun(t, wide(), addQueue("p", api.Res{9, 0, 0}), addNode("n", api.Res{4, 0, 0})).other.State(), 5)
}

func TestAnswersTellTheOrderOfWhatHappens(t *testing.T) {
	roll := dice(207)
	g := gen2.New()
	for range 3000 {
		homes := map[string]string{}
		for _, j := range g.State().Jobs {
			homes[j.Task.Name] = j.Node
		}
		o := crowd.op(roll)
		a := g.Do(o)
		for _, act := range a.Acts {
			home, known := homes[act.Task]
			if !known || act.Node == "" || act.Kind == api.Bind && home != "" || act.Kind != api.Bind && home != act.Node {
				t.Fatalf("Do(%+v) = %q, but %s was on %q", o, lines(a.Acts), act.Task, home)
			}
			homes[act.Task] = ""
			if act.Kind == api.Bind {
				homes[act.Task] = act.Node
			}
		}
		if i := slices.IndexFunc(g.State().Jobs, func(j api.Job) bool { return homes[j.Task.Name] != j.Node }); i >= 0 {
			t.Fatalf("Do(%+v) = %q, but there is %+v", o, lines(a.Acts), g.State().Jobs[i])
		}
	}
}
