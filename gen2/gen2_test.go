package gen2_test

import (
	"slices"
	"testing"

	"interregnum/api"
	"interregnum/gen1"
	"interregnum/gen2"
	"interregnum/oper"
)

const most = api.MaxRes

func tick() api.Op {
	return api.Op{Kind: api.Tick}
}

func named(kind int, name string) api.Op {
	return api.Op{Kind: kind, Name: name}
}

func addNode(name string, capacity api.Res, labels ...api.Label) api.Op {
	return api.Op{Kind: api.AddNode, Node: api.Node{Name: name, Cap: capacity, Labels: labels}}
}

func addQueue(name string, quota api.Res) api.Op {
	return api.Op{Kind: api.AddQueue, Queue: api.Queue{Name: name, Quota: quota}}
}

// submit submits a task of the queue q that needs some of the first resource, with more that is told of it.
func submit(name string, prio, need int, more ...func(k *api.Task)) api.Op {
	k := api.Task{Name: name, Queue: "q", Prio: prio, Need: api.Res{need, 0, 0}}
	for _, tell := range more {
		tell(&k)
	}
	return api.Op{Kind: api.Submit, Task: k}
}

// of makes a task one of a queue.
func of(queue string) func(k *api.Task) {
	return func(k *api.Task) { k.Queue = queue }
}

// in makes a task one of a gang.
func in(gang string, size int) func(k *api.Task) {
	return func(k *api.Task) { k.Gang, k.Size = gang, size }
}

// apart keeps a task apart from others.
func apart(from string) func(k *api.Task) {
	return func(k *api.Task) { k.Apart = from }
}

// wanting asks for labels of a machine.
func wanting(wants ...api.Label) func(k *api.Task) {
	return func(k *api.Task) { k.Wants = wants }
}

// lines tells acts as their lines.
func lines(acts []api.Act) []string {
	var l []string
	for _, a := range acts {
		l = append(l, oper.Text(a))
	}
	return l
}

func sameMachine(a, b api.Machine) bool {
	m, n := a.Node, b.Node
	return a.Up == b.Up && a.Until == b.Until && m.Name == n.Name && m.Cap == n.Cap && slices.Equal(m.Labels, n.Labels)
}

func sameJob(a, b api.Job) bool {
	k, l := a.Task, b.Task
	return a.Seq == b.Seq && a.Node == b.Node && a.Bound == b.Bound && k.Name == l.Name && k.Queue == l.Queue && k.Prio == l.Prio &&
		k.Need == l.Need && slices.Equal(k.Wants, l.Wants) && k.Apart == l.Apart && k.Gang == l.Gang && k.Size == l.Size
}

// same tells whether two states are the same one; a nil list is like an empty one.
func same(a, b api.State) bool {
	return a.Clock == b.Clock && a.Next == b.Next && slices.EqualFunc(a.Machines, b.Machines, sameMachine) &&
		slices.Equal(a.Queues, b.Queues) && slices.EqualFunc(a.Jobs, b.Jobs, sameJob)
}

// blank is the state of a new scheduler.
func blank() api.State {
	return api.State{Next: 1}
}

// rich is a state in which all fields are used: b and c fill the machine m, and the quota of p.
func rich() api.State {
	return api.State{
		Clock: 7,
		Next:  9,
		Machines: []api.Machine{
			{Node: api.Node{Name: "k", Cap: api.Res{5, 5, 5}, Labels: []api.Label{{Key: "a", Value: "1"}, {Key: "b", Value: "2"}}}, Up: true, Until: 9},
			{Node: api.Node{Name: "l"}, Until: 3},
			{Node: api.Node{Name: "m", Cap: api.Res{3, 3, 3}, Labels: []api.Label{{Key: "b", Value: "2"}}}, Up: true, Until: 11},
		},
		Queues: []api.Queue{{Name: "o"}, {Name: "p", Quota: api.Res{3, 2, 3}}, {Name: "q", Quota: api.Res{9, 9, 9}}},
		Jobs: []api.Job{
			{Task: api.Task{Name: "d", Queue: "q", Prio: 1, Need: api.Res{1, 1, 1}, Gang: "g", Size: 2}, Seq: 2, Bound: 3},
			{Task: api.Task{Name: "b", Queue: "p", Prio: 3, Need: api.Res{1, 2, 3}, Wants: []api.Label{{Key: "b", Value: "2"}}, Apart: "x"}, Seq: 4, Node: "m", Bound: 1},
			{Task: api.Task{Name: "c", Queue: "p", Prio: 9, Need: api.Res{2, 0, 0}, Apart: "y"}, Seq: 5, Node: "m", Bound: 2},
			{Task: api.Task{Name: "a", Queue: "q", Need: api.Res{5, 0, 1}, Wants: []api.Label{{Key: "a", Value: "1"}, {Key: "b", Value: "2"}}, Apart: "x"}, Seq: 8, Node: "k", Bound: 1},
		},
	}
}

// twins are a scheduler of each generation, which must do the same.
type twins struct {
	t     *testing.T
	first *gen1.Scheduler
	other *gen2.Scheduler
}

// begun are new twins after operations that must be performed, whatever they decide.
func begun(t *testing.T, ops ...api.Op) twins {
	t.Helper()
	w := twins{t, gen1.New(), gen2.New()}
	w.all(ops...)
	return w
}

// loaded are twins with a state, which must be valid.
func loaded(t *testing.T, s api.State) twins {
	t.Helper()
	first, err := gen1.Load(s)
	other, too := gen2.Load(s)
	if err != api.OK || too != api.OK || first == nil || other == nil {
		t.Fatalf("Load(%+v): %d, %d", s, err, too)
	}
	w := twins{t, first, other}
	w.has(s)
	return w
}

// do lets both perform an operation, and asks that nothing tells them apart.
func (w twins) do(o api.Op) api.Answer {
	w.t.Helper()
	before := w.first.State()
	want, got := w.first.Do(o), w.other.Do(o)
	if !oper.Same(want, got) {
		w.t.Fatalf("Do(%+v) = %d, %q, not %d, %q, with %+v", o, got.Err, lines(got.Acts), want.Err, lines(want.Acts), before)
	}
	if s := w.other.State(); !same(s, w.first.State()) {
		w.t.Fatalf("Do(%+v) made %+v of %+v, not %+v", o, s, before, w.first.State())
	}
	if what := gen2.Fault(w.other); what != "" {
		w.t.Fatalf("Do(%+v) left a fault: %s, with %+v", o, what, before)
	}
	return got
}

// must asks that an operation is performed, with these acts.
func (w twins) must(o api.Op, acts ...string) {
	w.t.Helper()
	if a := w.do(o); a.Err != api.OK || !slices.Equal(lines(a.Acts), acts) {
		w.t.Errorf("Do(%+v) = %d, %q, not OK, %q", o, a.Err, lines(a.Acts), acts)
	}
}

// refuses asks that an operation is rejected, and changes nothing.
func (w twins) refuses(err api.Errno, ops ...api.Op) {
	w.t.Helper()
	before := w.other.State()
	for _, o := range ops {
		if a := w.do(o); a.Err != err || len(a.Acts) > 0 {
			w.t.Errorf("Do(%+v) = %d, %q, not %d", o, a.Err, lines(a.Acts), err)
		}
		w.has(before)
	}
}

// all asks that operations are performed, whatever they decide.
func (w twins) all(ops ...api.Op) {
	w.t.Helper()
	for _, o := range ops {
		if a := w.do(o); a.Err != api.OK {
			w.t.Fatalf("Do(%+v) = %d", o, a.Err)
		}
	}
}

// has asks that the state is this one.
func (w twins) has(want api.State) {
	w.t.Helper()
	if s := w.other.State(); !same(s, want) {
		w.t.Errorf("the state is %+v, not %+v", s, want)
	}
	if what := gen2.Fault(w.other); what != "" {
		w.t.Errorf("there is a fault: %s", what)
	}
}

// wide is the queue q, which has quota for all that these tests need.
func wide() api.Op {
	return addQueue("q", api.Res{1000, 1000, 1000})
}

func TestExampleOfTheChapter(t *testing.T) {
	g := gen2.New()
	for _, o := range []api.Op{addQueue("q", api.Res{9, 9, 9}), addNode("n", api.Res{4, 0, 0}), submit("a", 1, 3)} {
		if a := g.Do(o); a.Err != api.OK || len(a.Acts) != 0 {
			t.Errorf("Do(%+v) = %+v", o, a)
		}
	}
	if a := g.Do(tick()); a.Err != api.OK || !slices.Equal(lines(a.Acts), []string{"bind a n"}) {
		t.Errorf("Tick: %+v", a)
	}
	if g, err := gen2.Load(api.State{}); g != nil || err != api.ErrForm {
		t.Errorf("Load of the zero state: %v, %d", g, err)
	}
}

func TestExamplesOfTheFirstGeneration(t *testing.T) {
	one := begun(t, addNode("n", api.Res{4, 0, 0}), addQueue("q", api.Res{9, 9, 9}), submit("t", 0, 2))
	one.must(tick(), "bind t n")
	two := begun(t, wide(), addNode("n", api.Res{4, 0, 0}), submit("a", 1, 3))
	two.must(tick(), "bind a n")
	two.must(submit("h", 5, 2))
	two.must(tick(), "evict a n", "bind h n")
}

func TestNew(t *testing.T) {
	w := begun(t)
	w.has(blank())
	w.all(wide())
	begun(t).has(blank())
}

func TestLoad(t *testing.T) {
	loaded(t, blank())
	loaded(t, rich())
	loaded(t, api.State{Clock: api.MaxClock, Next: api.MaxClock, Machines: []api.Machine{}, Queues: []api.Queue{}, Jobs: []api.Job{}})
}

func TestLoadRefusesWhatIsNotValid(t *testing.T) {
	faults := []func(s *api.State){
		func(s *api.State) { *s = api.State{} },
		func(s *api.State) { s.Clock = -1 },
		func(s *api.State) { s.Next = 8 },
		func(s *api.State) { s.Machines[0].Until = -1 },
		func(s *api.State) { s.Machines[0], s.Machines[1] = s.Machines[1], s.Machines[0] },
		func(s *api.State) { s.Machines[2].Up = false },
		func(s *api.State) { s.Machines[2].Node.Cap[0]-- },
		func(s *api.State) { s.Machines[2].Node.Labels = nil },
		func(s *api.State) { s.Machines = nil },
		func(s *api.State) { s.Queues[1].Quota[2]-- },
		func(s *api.State) { s.Queues = s.Queues[:2] },
		func(s *api.State) { s.Jobs[0].Seq = 0 },
		func(s *api.State) { s.Jobs[0].Task.Size = 1 },
		func(s *api.State) { s.Jobs[0].Task.Name = "a" },
		func(s *api.State) { s.Jobs[1].Bound = 0 },
		func(s *api.State) { s.Jobs[1].Task.Apart = "y" },
	}
	for i, fault := range faults {
		s := rich()
		fault(&s)
		if g, err := gen2.Load(s); g != nil || err != api.ErrForm {
			t.Errorf("%d: Load(%+v) = %v, %d", i, s, g, err)
		}
	}
}

func TestALoadedSchedulerGoesOn(t *testing.T) {
	w := loaded(t, rich())
	w.must(submit("e", 1, 1, in("g", 2)))
	w.must(tick())
	w.must(named(api.Finish, "a"))
	w.must(tick(), "bind d k", "bind e k")
	w.must(tick(), "release d k", "release e k")
	w.must(named(api.Beat, "l"))
	want := rich()
	want.Clock, want.Next = 10, 10
	want.Machines[0].Up = false
	want.Machines[1].Up, want.Machines[1].Until = true, 14
	want.Jobs[0].Bound = 4
	want.Jobs[3] = api.Job{Task: submit("e", 1, 1, in("g", 2)).Task, Seq: 9, Bound: 1}
	w.has(want)
}

func TestANilSchedulerRefusesAll(t *testing.T) {
	w := twins{t: t}
	for _, o := range []api.Op{{}, tick(), wide(), addNode("n", api.Res{}), submit("a", 0, 0), named(api.Beat, "n"), named(api.Cancel, "-")} {
		if want, got := w.first.Do(o), w.other.Do(o); got.Err != api.ErrArg || len(got.Acts) > 0 || !oper.Same(want, got) {
			t.Errorf("Do(%+v) = %+v", o, got)
		}
		if s := w.other.State(); !same(s, blank()) {
			t.Errorf("after Do(%+v), the state is %+v", o, s)
		}
	}
}

func TestTheZeroSchedulerIsLikeANewOne(t *testing.T) {
	var zero gen2.Scheduler
	if s := zero.State(); !same(s, blank()) {
		t.Errorf("the state is %+v", s)
	}
	for _, o := range []api.Op{tick(), wide(), addNode("n", api.Res{}), named(api.Beat, "n"), named(api.DropNode, "n"), named(api.DropQueue, "q"), named(api.Cancel, "a"), named(api.Finish, "a"), submit("a", 0, 0), {}} {
		w := twins{t, gen1.New(), new(gen2.Scheduler)}
		w.do(o)
		w.do(tick())
	}
	roll := dice(201)
	for range 20 {
		w := twins{t, new(gen1.Scheduler), new(gen2.Scheduler)}
		for range 100 {
			w.do(small.op(roll))
		}
	}
}
