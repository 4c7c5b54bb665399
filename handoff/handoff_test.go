package handoff_test

import (
	"math"
	"slices"
	"testing"

	"interregnum/api"
	"interregnum/gen1"
	"interregnum/handoff"
	"interregnum/oper"
)

func tick() api.Op {
	return api.Op{Kind: api.Tick}
}

func named(kind int, name string) api.Op {
	return api.Op{Kind: kind, Name: name}
}

func addNode(name string, capacity api.Res, labels ...api.Label) api.Op {
	return api.Op{Kind: api.AddNode, Node: api.Node{Name: name, Cap: capacity, Labels: labels}}
}

func addQueue(name string, quota api.Res) api.Op {
	return api.Op{Kind: api.AddQueue, Queue: api.Queue{Name: name, Quota: quota}}
}

// submit submits a task of the queue q that needs some of the first resource.
func submit(name string, prio, need int, wants ...api.Label) api.Op {
	return api.Op{Kind: api.Submit, Task: api.Task{Name: name, Queue: "q", Prio: prio, Need: api.Res{need, 0, 0}, Wants: wants}}
}

// lines tells acts as their lines.
func lines(acts []api.Act) []string {
	var l []string
	for _, a := range acts {
		l = append(l, oper.Text(a))
	}
	return l
}

func sameMachine(a, b api.Machine) bool {
	m, n := a.Node, b.Node
	return a.Up == b.Up && a.Until == b.Until && m.Name == n.Name && m.Cap == n.Cap && slices.Equal(m.Labels, n.Labels)
}

func sameJob(a, b api.Job) bool {
	k, l := a.Task, b.Task
	return a.Seq == b.Seq && a.Node == b.Node && a.Bound == b.Bound && k.Name == l.Name && k.Queue == l.Queue && k.Prio == l.Prio &&
		k.Need == l.Need && slices.Equal(k.Wants, l.Wants) && k.Apart == l.Apart && k.Gang == l.Gang && k.Size == l.Size
}

// same tells whether two states are the same one; a nil list is like an empty one.
func same(a, b api.State) bool {
	return a.Clock == b.Clock && a.Next == b.Next && slices.EqualFunc(a.Machines, b.Machines, sameMachine) &&
		slices.Equal(a.Queues, b.Queues) && slices.EqualFunc(a.Jobs, b.Jobs, sameJob)
}

// place is what Where returns.
type place struct{ phase, active, epoch int }

func placeOf(c *handoff.Control) place {
	phase, active, epoch := c.Where()
	return place{phase, active, epoch}
}

// mustBe asks that a control is somewhere, and that its generations never differed.
func mustBe(t *testing.T, c *handoff.Control, p place) {
	t.Helper()
	if at := placeOf(c); at != p || c.Apart() != 0 {
		t.Errorf("Where = %+v, not %+v; Apart = %d", at, p, c.Apart())
	}
}

// mustDo asks that operations are performed, whatever they decide.
func mustDo(t *testing.T, c *handoff.Control, ops ...api.Op) {
	t.Helper()
	for _, o := range ops {
		if a := c.Do(o); a.Err != api.OK {
			t.Fatalf("Do(%+v) = %+v", o, a)
		}
	}
}

// mustDecide asks that an operation decides something.
func mustDecide(t *testing.T, c *handoff.Control, o api.Op, want ...string) {
	t.Helper()
	if a := c.Do(o); a.Err != api.OK || !slices.Equal(lines(a.Acts), want) {
		t.Fatalf("Do(%+v) = %d, %q, not %q", o, a.Err, lines(a.Acts), want)
	}
}

func mustCommand(t *testing.T, c *handoff.Control, kinds ...int) {
	t.Helper()
	for _, kind := range kinds {
		if err := c.Command(kind); err != api.OK {
			t.Fatalf("Command(%d) = %d at %+v", kind, err, placeOf(c))
		}
	}
}

// mustReject asks that a command returns an error and changes nothing.
func mustReject(t *testing.T, c *handoff.Control, kind int, want api.Errno) {
	t.Helper()
	at, b := placeOf(c), c.Save()
	if err := c.Command(kind); err != want {
		t.Errorf("Command(%d) = %d, not %d, at %+v", kind, err, want, at)
	}
	mustBe(t, c, at)
	if !slices.Equal(c.Save(), b) {
		t.Errorf("Command(%d) at %+v made %q of %q", kind, at, c.Save(), b)
	}
}

// paths are commands for a new control that lead to each phase with each generation.
var paths = []struct {
	kinds []int
	to    place
}{
	{nil, place{handoff.Calm, 1, 1}},
	{[]int{handoff.Prepare}, place{handoff.Shadow, 1, 1}},
	{[]int{handoff.Prepare, handoff.Abort}, place{handoff.Calm, 1, 1}},
	{[]int{handoff.Prepare, handoff.Cutover}, place{handoff.Trial, 2, 2}},
	{[]int{handoff.Prepare, handoff.Cutover, handoff.Commit}, place{handoff.Calm, 2, 2}},
	{[]int{handoff.Prepare, handoff.Cutover, handoff.Rollback}, place{handoff.Calm, 1, 3}},
	{[]int{handoff.Prepare, handoff.Cutover, handoff.Commit, handoff.Prepare}, place{handoff.Shadow, 2, 2}},
	{[]int{handoff.Prepare, handoff.Cutover, handoff.Commit, handoff.Prepare, handoff.Abort}, place{handoff.Calm, 2, 2}},
	{[]int{handoff.Prepare, handoff.Cutover, handoff.Commit, handoff.Prepare, handoff.Cutover}, place{handoff.Trial, 1, 3}},
	{[]int{handoff.Prepare, handoff.Cutover, handoff.Commit, handoff.Prepare, handoff.Cutover, handoff.Commit}, place{handoff.Calm, 1, 3}},
	{[]int{handoff.Prepare, handoff.Cutover, handoff.Commit, handoff.Prepare, handoff.Cutover, handoff.Rollback}, place{handoff.Calm, 2, 4}},
	{[]int{handoff.Prepare, handoff.Cutover, handoff.Rollback, handoff.Prepare, handoff.Cutover}, place{handoff.Trial, 2, 4}},
}

// noCommands are numbers that are no commands.
var noCommands = []int{math.MinInt, -2, -1, 0, 6, 7, 255, 257, 1<<32 + 1, math.MaxInt}

func TestTheNumbersOfPhasesAndCommands(t *testing.T) {
	if handoff.Calm != 1 || handoff.Shadow != 2 || handoff.Trial != 3 {
		t.Error("the phases have other numbers")
	}
	if handoff.Prepare != 1 || handoff.Cutover != 2 || handoff.Commit != 3 || handoff.Rollback != 4 || handoff.Abort != 5 {
		t.Error("the commands have other numbers")
	}
}

func TestNew(t *testing.T) {
	c := handoff.New()
	mustBe(t, c, place{1, 1, 1})
	if s := c.State(); !same(s, api.State{Next: 1}) {
		t.Errorf("State = %+v", s)
	}
}

func TestEachCommandInEachPhase(t *testing.T) {
	for _, path := range paths {
		for kind := handoff.Prepare; kind <= handoff.Abort; kind++ {
			c := handoff.New()
			mustCommand(t, c, path.kinds...)
			mustBe(t, c, path.to)
			p := path.to
			switch {
			case kind == handoff.Prepare && p.phase == handoff.Calm:
				p.phase = handoff.Shadow
			case kind == handoff.Abort && p.phase == handoff.Shadow, kind == handoff.Commit && p.phase == handoff.Trial:
				p.phase = handoff.Calm
			case kind == handoff.Cutover && p.phase == handoff.Shadow:
				p = place{handoff.Trial, 3 - p.active, p.epoch + 1}
			case kind == handoff.Rollback && p.phase == handoff.Trial:
				p = place{handoff.Calm, 3 - p.active, p.epoch + 1}
			default:
				mustReject(t, c, kind, api.ErrPhase)
				continue
			}
			mustCommand(t, c, kind)
			mustBe(t, c, p)
		}
	}
}

func TestNoCommands(t *testing.T) {
	for _, path := range paths {
		c := handoff.New()
		mustCommand(t, c, path.kinds...)
		for _, kind := range noCommands {
			mustReject(t, c, kind, api.ErrArg)
		}
		mustBe(t, c, path.to)
	}
}

func TestExamples(t *testing.T) {
	c := handoff.New()
	if err := c.Command(handoff.Cutover); err != api.ErrPhase {
		t.Errorf("Cutover in Calm: %d", err)
	}
	if err := c.Command(6); err != api.ErrArg {
		t.Errorf("Command(6): %d", err)
	}
	mustCommand(t, c, handoff.Prepare, handoff.Cutover)
	mustBe(t, c, place{handoff.Trial, 2, 2})
	mustCommand(t, c, handoff.Rollback)
	mustBe(t, c, place{handoff.Calm, 1, 3})
}

func TestRejectedCommandsLeaveTheOtherGeneration(t *testing.T) {
	c := handoff.New()
	mustDo(t, c, addQueue("q", api.Res{9, 9, 9}), addNode("n", api.Res{4, 0, 0}))
	mustCommand(t, c, handoff.Prepare)
	reject := func(kinds ...int) {
		for _, kind := range kinds {
			mustReject(t, c, kind, api.ErrPhase)
		}
		mustReject(t, c, 0, api.ErrArg)
	}
	reject(handoff.Prepare, handoff.Commit, handoff.Rollback)
	mustDo(t, c, submit("t", 1, 2))
	reject(handoff.Prepare, handoff.Commit, handoff.Rollback)
	mustCommand(t, c, handoff.Cutover)
	mustDecide(t, c, tick(), "bind t n")
	reject(handoff.Prepare, handoff.Cutover, handoff.Abort)
	mustDo(t, c, submit("u", 1, 2))
	reject(handoff.Prepare, handoff.Cutover, handoff.Abort)
	mustCommand(t, c, handoff.Rollback)
	mustDecide(t, c, tick(), "bind u n")
	mustDecide(t, c, named(api.Cancel, "t"), "release t n")
	mustBe(t, c, place{handoff.Calm, 1, 3})
}

func TestAnswersInEachPhase(t *testing.T) {
	for _, path := range paths {
		// The commands come before the operations, or among them.
		for _, late := range []bool{false, true} {
			c := handoff.New()
			if !late {
				mustCommand(t, c, path.kinds...)
			}
			mustDo(t, c, addNode("n", api.Res{4, 0, 0}), addQueue("q", api.Res{9, 9, 9}), submit("a", 1, 3))
			mustDecide(t, c, tick(), "bind a n")
			mustDo(t, c, submit("h", 5, 2))
			if late {
				mustCommand(t, c, path.kinds...)
			}
			mustBe(t, c, path.to)
			mustDecide(t, c, tick(), "evict a n", "bind h n")
			for _, wrong := range []struct {
				o   api.Op
				err api.Errno
			}{
				{api.Op{}, api.ErrArg},
				{api.Op{Kind: 10}, api.ErrArg},
				{named(api.Tick, "n"), api.ErrArg},
				{named(api.Beat, "m"), api.ErrNone},
				{addNode("n", api.Res{}), api.ErrDup},
				{submit("z", 0, 5), api.ErrQuota},
				{named(api.DropQueue, "q"), api.ErrBusy},
				{named(api.Finish, "a"), api.ErrState},
			} {
				before := c.State()
				if a := c.Do(wrong.o); a.Err != wrong.err || len(a.Acts) > 0 || !same(c.State(), before) {
					t.Errorf("Do(%+v) = %+v, not %d, and %+v became %+v", wrong.o, a, wrong.err, before, c.State())
				}
			}
			mustDecide(t, c, named(api.DropNode, "n"), "release h n")
			mustDecide(t, c, named(api.Cancel, "h"))
			want := api.State{Clock: 2, Next: 3, Queues: []api.Queue{{Name: "q", Quota: api.Res{9, 9, 9}}}, Jobs: []api.Job{
				{Task: submit("a", 1, 3).Task, Seq: 1, Bound: 1},
			}}
			if s := c.State(); !same(s, want) {
				t.Errorf("State = %+v, not %+v", s, want)
			}
			mustBe(t, c, path.to)
		}
	}
}

func TestTheOtherGenerationPerformsEachOperation(t *testing.T) {
	c, alone := handoff.New(), gen1.New()
	do := func(ops ...api.Op) {
		mustDo(t, c, ops...)
		for _, o := range ops {
			alone.Do(o)
		}
	}
	take := func(kind int, p place) {
		mustCommand(t, c, kind)
		mustBe(t, c, p)
		if s := c.State(); !same(s, alone.State()) {
			t.Errorf("State = %+v, not %+v, at %+v", s, alone.State(), p)
		}
	}
	do(addQueue("q", api.Res{9, 9, 9}), addNode("n", api.Res{4, 0, 0}, api.Label{Key: "a", Value: "1"}))
	take(handoff.Prepare, place{handoff.Shadow, 1, 1})
	do(submit("t", 1, 2, api.Label{Key: "a", Value: "1"}), tick(), addNode("m", api.Res{1, 1, 1}), addQueue("r", api.Res{1, 1, 1}))
	take(handoff.Cutover, place{handoff.Trial, 2, 2})
	do(named(api.Beat, "n"), named(api.Finish, "t"), submit("u", 3, 1), tick(), named(api.DropQueue, "r"))
	take(handoff.Rollback, place{handoff.Calm, 1, 3})
	do(tick(), tick(), tick(), tick(), submit("v", 3, 0), named(api.Cancel, "u"))
	take(handoff.Prepare, place{handoff.Shadow, 1, 3})
	do(tick(), tick(), named(api.DropNode, "m"))
	take(handoff.Abort, place{handoff.Calm, 1, 3})
	do(tick())
	take(handoff.Prepare, place{handoff.Shadow, 1, 3})
	take(handoff.Cutover, place{handoff.Trial, 2, 4})
	take(handoff.Commit, place{handoff.Calm, 2, 4})
	do(named(api.Beat, "n"), tick())
	take(handoff.Prepare, place{handoff.Shadow, 2, 4})
	do(tick(), submit("w", 2, 1))
	take(handoff.Cutover, place{handoff.Trial, 1, 5})
}
