package gen1_test

import (
	"reflect"
	"slices"
	"testing"

	"interregnum/api"
	"interregnum/gen1"
	"interregnum/oper"
)

const most = api.MaxRes

func tick() api.Op {
	return api.Op{Kind: api.Tick}
}

func named(kind int, name string) api.Op {
	return api.Op{Kind: kind, Name: name}
}

func addNode(name string, capacity api.Res, labels ...api.Label) api.Op {
	return api.Op{Kind: api.AddNode, Node: api.Node{Name: name, Cap: capacity, Labels: labels}}
}

func addQueue(name string, quota api.Res) api.Op {
	return api.Op{Kind: api.AddQueue, Queue: api.Queue{Name: name, Quota: quota}}
}

func submit(t api.Task) api.Op {
	return api.Op{Kind: api.Submit, Task: t}
}

// task makes a task of the queue q that needs some of the first resource.
func task(name string, prio, need int) api.Task {
	return api.Task{Name: name, Queue: "q", Prio: prio, Need: api.Res{need, 0, 0}}
}

// in makes a task one of a gang.
func in(gang string, size int, t api.Task) api.Task {
	t.Gang, t.Size = gang, size
	return t
}

// apart keeps a task apart from others.
func apart(from string, t api.Task) api.Task {
	t.Apart = from
	return t
}

// wanting asks for labels of a machine.
func wanting(t api.Task, wants ...api.Label) api.Task {
	t.Wants = wants
	return t
}

// tasks submits several tasks.
func tasks(l ...api.Task) []api.Op {
	var ops []api.Op
	for _, t := range l {
		ops = append(ops, submit(t))
	}
	return ops
}

// lines tells acts as their lines.
func lines(acts []api.Act) []string {
	var l []string
	for _, a := range acts {
		l = append(l, oper.Text(a))
	}
	return l
}

// mustDo asks that an operation is performed, with these acts.
func mustDo(t *testing.T, g *gen1.Scheduler, o api.Op, acts ...string) {
	t.Helper()
	if a := g.Do(o); a.Err != api.OK || !slices.Equal(lines(a.Acts), acts) {
		t.Errorf("Do(%+v) = %d, %q, not OK, %q", o, a.Err, lines(a.Acts), acts)
	}
}

// mustRefuse asks that an operation is rejected, and changes nothing.
func mustRefuse(t *testing.T, g *gen1.Scheduler, o api.Op, want api.Errno) {
	t.Helper()
	before := g.State()
	if a := g.Do(o); a.Err != want || len(a.Acts) > 0 {
		t.Errorf("Do(%+v) = %d, %q, not %d", o, a.Err, lines(a.Acts), want)
	}
	mustHave(t, g, before)
}

// plain makes all empty lists nil ones, so that states can be compared.
func plain(s api.State) api.State {
	s = gen1.Copy(s)
	if len(s.Machines) == 0 {
		s.Machines = nil
	}
	if len(s.Queues) == 0 {
		s.Queues = nil
	}
	if len(s.Jobs) == 0 {
		s.Jobs = nil
	}
	for i := range s.Machines {
		if n := &s.Machines[i].Node; len(n.Labels) == 0 {
			n.Labels = nil
		}
	}
	for i := range s.Jobs {
		if t := &s.Jobs[i].Task; len(t.Wants) == 0 {
			t.Wants = nil
		}
	}
	return s
}

func isSame(a, b api.State) bool {
	return reflect.DeepEqual(plain(a), plain(b))
}

func mustHave(t *testing.T, g *gen1.Scheduler, want api.State) {
	t.Helper()
	if s := g.State(); !isSame(s, want) {
		t.Errorf("the state is %+v, not %+v", s, want)
	}
}

// blank is the state of a new scheduler.
func blank() api.State {
	return api.State{Next: 1}
}

// begun is a scheduler after operations that must be performed.
func begun(t *testing.T, lists ...[]api.Op) *gen1.Scheduler {
	t.Helper()
	g := gen1.New()
	mustDoAll(t, g, lists...)
	return g
}

// mustDoAll asks that operations are performed, whatever they decide.
func mustDoAll(t *testing.T, g *gen1.Scheduler, lists ...[]api.Op) {
	t.Helper()
	for _, o := range slices.Concat(lists...) {
		if a := g.Do(o); a.Err != api.OK {
			t.Fatalf("Do(%+v) = %d", o, a.Err)
		}
	}
}

// wide is the queue q, which has quota for all that these tests need.
func wide() []api.Op {
	return []api.Op{addQueue("q", api.Res{1000, 1000, 1000})}
}

// loaded is a scheduler with a state, which must be valid.
func loaded(t *testing.T, s api.State) *gen1.Scheduler {
	t.Helper()
	g, err := gen1.Load(s)
	if err != api.OK {
		t.Fatalf("Load(%+v): %d", s, err)
	}
	return g
}

func job(t *testing.T, g *gen1.Scheduler, name string) api.Job {
	t.Helper()
	for _, j := range g.State().Jobs {
		if j.Task.Name == name {
			return j
		}
	}
	t.Fatalf("there is no job %s", name)
	return api.Job{}
}

func machine(t *testing.T, g *gen1.Scheduler, name string) api.Machine {
	t.Helper()
	for _, m := range g.State().Machines {
		if m.Node.Name == name {
			return m
		}
	}
	t.Fatalf("there is no machine %s", name)
	return api.Machine{}
}

func TestExampleOfTheContract(t *testing.T) {
	g := gen1.New()
	mustDo(t, g, addNode("n", api.Res{4, 0, 0}))
	mustDo(t, g, addQueue("q", api.Res{9, 9, 9}))
	mustDo(t, g, submit(task("t", 0, 2)))
	mustDo(t, g, tick(), "bind t n")
}

func TestExampleOfTheChapter(t *testing.T) {
	g := begun(t, wide(), []api.Op{addNode("n", api.Res{4, 0, 0})})
	mustDo(t, g, submit(task("a", 1, 3)))
	mustDo(t, g, tick(), "bind a n")
	mustDo(t, g, submit(task("h", 5, 2)))
	mustDo(t, g, tick(), "evict a n", "bind h n")
	if a := job(t, g, "a"); a.Node != "" {
		t.Errorf("a is on %s", a.Node)
	}
}

func TestExamplesOfTheWhole(t *testing.T) {
	fit := begun(t, wide(), []api.Op{addNode("a", api.Res{8, 0, 0}), addNode("b", api.Res{4, 0, 0})}, tasks(task("t", 0, 3)))
	mustDo(t, fit, tick(), "bind t b")

	gang := begun(t, wide(), []api.Op{addNode("n", api.Res{4, 0, 0})}, tasks(in("g", 2, task("x", 0, 2))))
	mustDo(t, gang, tick())
	mustDo(t, gang, submit(in("g", 2, task("y", 0, 2))))
	mustDo(t, gang, tick(), "bind x n", "bind y n")

	none := begun(t, wide(), []api.Op{addNode("n", api.Res{3, 0, 0})}, tasks(in("g", 2, task("x", 0, 2)), in("g", 2, task("y", 0, 2))))
	mustDo(t, none, tick())

	silent := begun(t, wide(), []api.Op{addNode("n", api.Res{4, 0, 0})}, tasks(task("t", 0, 3)))
	mustDo(t, silent, tick(), "bind t n")
	for range api.Lease - 1 {
		mustDo(t, silent, tick())
	}
	mustDo(t, silent, tick(), "release t n")
	if m := machine(t, silent, "n"); m.Up {
		t.Error("n is up")
	}
}

func TestNew(t *testing.T) {
	g := gen1.New()
	mustHave(t, g, blank())
	mustDoAll(t, g, wide())
	mustHave(t, gen1.New(), blank())
}

// rich is a state in which all fields are used: b and c are bound, b and c fill the machine m, and jobs and queues fill the quota of p.
func rich() api.State {
	return api.State{
		Clock: 7,
		Next:  9,
		Machines: []api.Machine{
			{Node: api.Node{Name: "k", Cap: api.Res{5, 5, 5}, Labels: []api.Label{{Key: "a", Value: "1"}, {Key: "b", Value: "2"}}}, Up: true, Until: 9},
			{Node: api.Node{Name: "l", Cap: api.Res{0, 0, 0}}, Until: 3},
			{Node: api.Node{Name: "m", Cap: api.Res{3, 3, 3}, Labels: []api.Label{{Key: "b", Value: "2"}}}, Up: true, Until: 11},
		},
		Queues: []api.Queue{
			{Name: "o", Quota: api.Res{0, 0, 0}},
			{Name: "p", Quota: api.Res{3, 2, 3}},
			{Name: "q", Quota: api.Res{9, 9, 9}},
		},
		Jobs: []api.Job{
			{Task: api.Task{Name: "d", Queue: "q", Prio: 1, Need: api.Res{1, 1, 1}, Gang: "g", Size: 2}, Seq: 2, Bound: 3},
			{Task: api.Task{Name: "b", Queue: "p", Prio: 3, Need: api.Res{1, 2, 3}, Wants: []api.Label{{Key: "b", Value: "2"}}, Apart: "x"}, Seq: 4, Node: "m", Bound: 1},
			{Task: api.Task{Name: "c", Queue: "p", Prio: 9, Need: api.Res{2, 0, 0}, Apart: "y"}, Seq: 5, Node: "m", Bound: 2},
			{Task: api.Task{Name: "a", Queue: "q", Need: api.Res{5, 0, 1}, Wants: []api.Label{{Key: "a", Value: "1"}, {Key: "b", Value: "2"}}, Apart: "x"}, Seq: 8, Node: "k", Bound: 1},
		},
	}
}

func TestLoad(t *testing.T) {
	mustHave(t, loaded(t, rich()), rich())
	mustHave(t, loaded(t, blank()), blank())
	empty := api.State{Clock: 5, Next: 6, Machines: []api.Machine{}, Queues: []api.Queue{}, Jobs: []api.Job{}}
	mustHave(t, loaded(t, empty), api.State{Clock: 5, Next: 6})
}

func TestLoadRefusesWhatIsNotValid(t *testing.T) {
	wrong := rich()
	wrong.Jobs[0].Seq = 0
	for _, s := range []api.State{{}, wrong, {Clock: -1, Next: 1}, {Next: api.MaxClock + 1}} {
		if g, err := gen1.Load(s); g != nil || err != api.ErrForm {
			t.Errorf("Load(%+v) = %v, %d", s, g, err)
		}
	}
}

func TestALoadedSchedulerGoesOn(t *testing.T) {
	g := loaded(t, rich())
	mustDo(t, g, submit(in("g", 2, task("e", 1, 1))))
	mustDo(t, g, tick())
	mustDo(t, g, named(api.Finish, "a"))
	mustDo(t, g, tick(), "bind d k", "bind e k")
	if e := job(t, g, "e"); e.Seq != 9 || e.Bound != 1 {
		t.Errorf("e is %+v", e)
	}
	if d := job(t, g, "d"); d.Seq != 2 || d.Bound != 4 {
		t.Errorf("d is %+v", d)
	}
	mustDo(t, g, tick(), "release d k", "release e k")
	mustDo(t, g, named(api.Beat, "l"))
	want := rich()
	want.Clock, want.Next = 10, 10
	want.Machines[0].Up = false
	want.Machines[1].Up, want.Machines[1].Until = true, 14
	want.Jobs[0].Bound = 4
	want.Jobs[3] = api.Job{Task: in("g", 2, task("e", 1, 1)), Seq: 9, Bound: 1}
	mustHave(t, g, want)
}

func TestALoadedSchedulerIsLikeTheOneItIsFrom(t *testing.T) {
	roll := dice(1)
	g := gen1.New()
	for range 400 {
		g.Do(someOp(roll))
		other := loaded(t, g.State())
		for range 3 {
			o := someOp(roll)
			one, two := g.Do(o), other.Do(o)
			if !oper.Same(one, two) || !isSame(g.State(), other.State()) {
				t.Fatalf("%+v: %+v and %+v", o, one, two)
			}
		}
	}
}

func TestCopy(t *testing.T) {
	for _, s := range []api.State{{}, blank(), rich(), {Clock: -1, Next: -2, Jobs: make([]api.Job, 100)}} {
		if c := gen1.Copy(s); !reflect.DeepEqual(c, s) {
			t.Errorf("Copy(%+v) = %+v", s, c)
		}
	}
}

// spoil writes to all memory of a state.
func spoil(s api.State) {
	for i := range s.Machines {
		clear(s.Machines[i].Node.Labels)
		_ = append(s.Machines[i].Node.Labels, api.Label{Key: "z"})
	}
	for i := range s.Jobs {
		clear(s.Jobs[i].Task.Wants)
		_ = append(s.Jobs[i].Task.Wants, api.Label{Key: "z"})
	}
	clear(s.Machines)
	clear(s.Queues)
	clear(s.Jobs)
	_ = append(s.Machines, api.Machine{Until: 99})
	_ = append(s.Queues, api.Queue{Name: "z"})
	_ = append(s.Jobs, api.Job{Seq: 99})
}

func TestCopiesHaveMemoryOfTheirOwn(t *testing.T) {
	s := rich()
	spoil(gen1.Copy(s))
	if !reflect.DeepEqual(s, rich()) {
		t.Errorf("writing to the copy made the state %+v", s)
	}
	c := gen1.Copy(s)
	spoil(s)
	if !reflect.DeepEqual(c, rich()) {
		t.Errorf("writing to the state made the copy %+v", c)
	}
}

func TestANilSchedulerRefusesAll(t *testing.T) {
	var none *gen1.Scheduler
	for _, o := range []api.Op{{}, tick(), addQueue("q", api.Res{}), addNode("n", api.Res{}), named(api.Beat, "n"), named(api.Cancel, "-")} {
		if a := none.Do(o); a.Err != api.ErrArg || len(a.Acts) > 0 {
			t.Errorf("Do(%+v) = %+v", o, a)
		}
		mustHave(t, none, blank())
	}
}

func TestTheZeroSchedulerIsLikeANewOne(t *testing.T) {
	roll := dice(2)
	for range 20 {
		zero, other := new(gen1.Scheduler), gen1.New()
		mustHave(t, zero, blank())
		for range 100 {
			o := someOp(roll)
			one, two := zero.Do(o), other.Do(o)
			if !oper.Same(one, two) || !isSame(zero.State(), other.State()) {
				t.Fatalf("%+v: %+v and %+v", o, one, two)
			}
		}
	}
	for _, o := range append(wide(), tick(), addNode("n", api.Res{})) {
		var zero gen1.Scheduler
		mustDo(t, &zero, o)
	}
}
