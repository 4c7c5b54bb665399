package gen1_test

import (
	"slices"
	"strconv"
	"strings"
	"testing"

	"interregnum/api"
	"interregnum/gen1"
)

func machineNames(g *gen1.Scheduler) []string {
	var names []string
	for _, m := range g.State().Machines {
		names = append(names, m.Node.Name)
	}
	return names
}

func queueNames(g *gen1.Scheduler) []string {
	var names []string
	for _, q := range g.State().Queues {
		names = append(names, q.Name)
	}
	return names
}

func TestAddNode(t *testing.T) {
	g := gen1.New()
	labels := []api.Label{{Key: "a", Value: "1"}, {Key: "b", Value: "2"}}
	mustDo(t, g, addNode("n", api.Res{1, 2, most}, labels...))
	want := blank()
	want.Machines = []api.Machine{{Node: api.Node{Name: "n", Cap: api.Res{1, 2, most}, Labels: labels}, Up: true, Until: 4}}
	mustHave(t, g, want)
	mustDo(t, g, tick())
	mustDo(t, g, tick())
	mustDo(t, g, addNode("m", api.Res{}))
	want.Clock = 2
	want.Machines = slices.Insert(want.Machines, 0, api.Machine{Node: api.Node{Name: "m"}, Up: true, Until: 6})
	mustHave(t, g, want)
}

func TestMachinesAreInTheOrderOfTheirNames(t *testing.T) {
	g := gen1.New()
	for _, name := range []string{"m", "z", "a", "m-", "0", "ma", "m0", "9"} {
		mustDo(t, g, addNode(name, api.Res{}))
	}
	if names := machineNames(g); !slices.Equal(names, []string{"0", "9", "a", "m", "m-", "m0", "ma", "z"}) {
		t.Errorf("the machines are %q", names)
	}
	mustDo(t, g, named(api.DropNode, "m-"))
	mustDo(t, g, named(api.DropNode, "z"))
	mustDo(t, g, named(api.DropNode, "0"))
	if names := machineNames(g); !slices.Equal(names, []string{"9", "a", "m", "m0", "ma"}) {
		t.Errorf("the machines are %q", names)
	}
}

// crowd adds as many nodes as there can be.
func crowd() []api.Op {
	var ops []api.Op
	for i := range api.MaxNodes {
		ops = append(ops, addNode("n"+strconv.Itoa(i), api.Res{i, 0, 0}))
	}
	return ops
}

func TestAddNodeRefuses(t *testing.T) {
	g := begun(t, crowd())
	mustRefuse(t, g, addNode("n3", api.Res{3, 0, 0}), api.ErrDup)
	mustRefuse(t, g, addNode("n0", api.Res{9, 9, 9}, api.Label{Key: "a", Value: "1"}), api.ErrDup)
	mustRefuse(t, g, addNode("n16", api.Res{}), api.ErrFull)
	mustRefuse(t, g, addNode("N", api.Res{}), api.ErrArg)
	mustRefuse(t, g, addNode("n3", api.Res{-1, 0, 0}), api.ErrArg)
	mustDo(t, g, named(api.DropNode, "n3"))
	mustDo(t, g, addNode("n16", api.Res{}))
	mustRefuse(t, g, addNode("n3", api.Res{}), api.ErrFull)
	mustRefuse(t, g, addNode("n16", api.Res{}), api.ErrDup)
}

func TestAMachineThatIsDownIsStillThere(t *testing.T) {
	g := begun(t, []api.Op{addNode("n", api.Res{}), tick(), tick(), tick(), tick(), tick()})
	if machine(t, g, "n").Up {
		t.Fatal("n is up")
	}
	mustRefuse(t, g, addNode("n", api.Res{}), api.ErrDup)
	mustDo(t, g, named(api.DropNode, "n"))
	mustDo(t, g, addNode("n", api.Res{}))
	if m := machine(t, g, "n"); !m.Up || m.Until != 9 {
		t.Errorf("n is %+v", m)
	}
}

func TestDropNode(t *testing.T) {
	g := begun(t, wide(), []api.Op{addNode("m", api.Res{9, 0, 0}), addNode("n", api.Res{3, 0, 0})},
		tasks(task("d", 1, 1), task("c", 2, 1), task("b", 3, 1), task("a", 5, 9)), []api.Op{tick()})
	mustDo(t, g, named(api.DropNode, "n"), "release d n", "release c n", "release b n")
	for name, bound := range map[string]int{"a": 1, "b": 1, "c": 1, "d": 1} {
		if j := job(t, g, name); (j.Node == "") != (name != "a") || j.Bound != bound {
			t.Errorf("%s is %+v", name, j)
		}
	}
	if names := machineNames(g); !slices.Equal(names, []string{"m"}) {
		t.Errorf("the machines are %q", names)
	}
	mustRefuse(t, g, named(api.DropNode, "n"), api.ErrNone)
	mustDo(t, g, tick())
	mustDo(t, g, named(api.DropNode, "m"), "release a m")
	mustDo(t, g, tick())
}

func TestDropNodeWithoutJobs(t *testing.T) {
	g := begun(t, wide(), []api.Op{addNode("n", api.Res{}), addNode("m", api.Res{5, 0, 0})}, tasks(task("a", 1, 5), task("b", 1, 5)), []api.Op{tick()})
	mustRefuse(t, g, named(api.DropNode, "o"), api.ErrNone)
	mustRefuse(t, g, named(api.DropNode, "q"), api.ErrNone)
	mustRefuse(t, g, named(api.DropNode, "a"), api.ErrNone)
	// What waits is not released.
	mustDo(t, g, named(api.DropNode, "n"))
	mustRefuse(t, gen1.New(), named(api.DropNode, "n"), api.ErrNone)
}

func TestBeat(t *testing.T) {
	g := begun(t, []api.Op{addNode("l", api.Res{}), addNode("m", api.Res{}), addNode("n", api.Res{}), tick(), tick(), tick()})
	mustDo(t, g, named(api.Beat, "m"))
	for name, until := range map[string]int{"l": 4, "m": 7, "n": 4} {
		if m := machine(t, g, name); !m.Up || m.Until != until {
			t.Errorf("%s is %+v", name, m)
		}
	}
	// Another one at the same time changes nothing.
	before := g.State()
	mustDo(t, g, named(api.Beat, "m"))
	mustHave(t, g, before)
}

func TestBeatOfAMachineThatIsDown(t *testing.T) {
	g := begun(t, wide(), []api.Op{addNode("n", api.Res{4, 0, 0})}, tasks(task("a", 1, 4)), []api.Op{tick(), tick(), tick(), tick()})
	mustDo(t, g, tick(), "release a n")
	mustDo(t, g, tick())
	mustDo(t, g, named(api.Beat, "n"))
	if m := machine(t, g, "n"); !m.Up || m.Until != 10 {
		t.Errorf("n is %+v", m)
	}
	if a := job(t, g, "a"); a.Node != "" {
		t.Errorf("a is on %s before the next pass", a.Node)
	}
	mustDo(t, g, tick(), "bind a n")
	if a := job(t, g, "a"); a.Bound != 2 {
		t.Errorf("a is %+v", a)
	}
}

func TestBeatRefuses(t *testing.T) {
	g := begun(t, wide(), []api.Op{addNode("n", api.Res{})}, tasks(task("a", 0, 0)))
	for _, name := range []string{"m", "o", "q", "a", "n-"} {
		mustRefuse(t, g, named(api.Beat, name), api.ErrNone)
	}
	mustRefuse(t, g, named(api.Beat, ""), api.ErrArg)
	mustRefuse(t, g, named(api.Beat, "N"), api.ErrArg)
	mustRefuse(t, gen1.New(), named(api.Beat, "n"), api.ErrNone)
}

func TestLeasesReachBeyondTheGreatestClock(t *testing.T) {
	g := loaded(t, api.State{Clock: api.MaxClock, Next: 1, Machines: []api.Machine{{Node: api.Node{Name: "m"}}}})
	mustDo(t, g, addNode("n", api.Res{}))
	mustDo(t, g, named(api.Beat, "m"))
	for _, name := range []string{"m", "n"} {
		if m := machine(t, g, name); !m.Up || m.Until != api.MaxClock+api.Lease {
			t.Errorf("%s is %+v", name, m)
		}
	}
	if !gen1.Right(g.State()) {
		t.Error("the state is not valid")
	}
}

func TestAddQueue(t *testing.T) {
	g := gen1.New()
	for i, name := range []string{"m", "z", "a", "m-", "0"} {
		mustDo(t, g, addQueue(name, api.Res{i, most, 0}))
	}
	want := blank()
	want.Queues = []api.Queue{
		{Name: "0", Quota: api.Res{4, most, 0}},
		{Name: "a", Quota: api.Res{2, most, 0}},
		{Name: "m", Quota: api.Res{0, most, 0}},
		{Name: "m-", Quota: api.Res{3, most, 0}},
		{Name: "z", Quota: api.Res{1, most, 0}},
	}
	mustHave(t, g, want)
}

func TestAddQueueRefuses(t *testing.T) {
	g := gen1.New()
	for i := range api.MaxQueues {
		mustDo(t, g, addQueue("q"+strconv.Itoa(i), api.Res{}))
	}
	mustRefuse(t, g, addQueue("q3", api.Res{}), api.ErrDup)
	mustRefuse(t, g, addQueue("q0", api.Res{9, 9, 9}), api.ErrDup)
	mustRefuse(t, g, addQueue("q8", api.Res{}), api.ErrFull)
	mustRefuse(t, g, addQueue("q3", api.Res{-1, 0, 0}), api.ErrArg)
	mustRefuse(t, g, addQueue(strings.Repeat("q", api.MaxName+1), api.Res{}), api.ErrArg)
	mustDo(t, g, named(api.DropQueue, "q3"))
	mustDo(t, g, addQueue("q8", api.Res{}))
	mustRefuse(t, g, addQueue("q3", api.Res{}), api.ErrFull)
	mustRefuse(t, g, addQueue("q8", api.Res{}), api.ErrDup)
}

func TestDropQueue(t *testing.T) {
	g := begun(t, wide(), []api.Op{addQueue("p", api.Res{}), addQueue("r", api.Res{}), addQueue("s", api.Res{})})
	mustDo(t, g, named(api.DropQueue, "r"))
	mustDo(t, g, named(api.DropQueue, "p"))
	if names := queueNames(g); !slices.Equal(names, []string{"q", "s"}) {
		t.Errorf("the queues are %q", names)
	}
	mustRefuse(t, g, named(api.DropQueue, "p"), api.ErrNone)
	mustRefuse(t, gen1.New(), named(api.DropQueue, "p"), api.ErrNone)
	mustDo(t, g, addQueue("p", api.Res{1, 0, 0}))
}

func TestDropQueueThatHasJobs(t *testing.T) {
	g := begun(t, wide(), []api.Op{addQueue("p", api.Res{}), addNode("n", api.Res{4, 0, 0})}, tasks(task("p", 1, 4), task("b", 1, 4)), []api.Op{tick()})
	mustRefuse(t, g, named(api.DropQueue, "q"), api.ErrBusy)
	mustDo(t, g, named(api.Cancel, "b"))
	mustRefuse(t, g, named(api.DropQueue, "q"), api.ErrBusy) // by one that is bound
	mustDo(t, g, named(api.DropNode, "n"), "release p n")
	mustRefuse(t, g, named(api.DropQueue, "q"), api.ErrBusy) // by one that waits
	mustRefuse(t, g, named(api.DropQueue, "n"), api.ErrNone)
	// A job with the name of a queue is none of the queue's.
	mustDo(t, g, named(api.DropQueue, "p"))
	mustDo(t, g, named(api.Cancel, "p"))
	mustDo(t, g, named(api.DropQueue, "q"))
	mustRefuse(t, g, submit(task("b", 1, 4)), api.ErrNone)
}
