package gen1_test

import (
	"slices"
	"testing"

	"interregnum/api"
	"interregnum/gen1"
)

func TestTickOfANewScheduler(t *testing.T) {
	g := gen1.New()
	for clock := 1; clock < 10; clock++ {
		mustDo(t, g, tick())
		mustHave(t, g, api.State{Clock: clock, Next: 1})
	}
}

func TestTickAtTheGreatestClock(t *testing.T) {
	s := rich()
	s.Clock = api.MaxClock - 1
	s.Machines[0].Until, s.Machines[2].Until = api.MaxClock-1, api.MaxClock
	s.Machines = append(s.Machines, api.Machine{Node: api.Node{Name: "n", Cap: api.Res{1, 1, 0}}, Up: true, Until: api.MaxClock + api.Lease})
	g := loaded(t, s)
	mustDo(t, g, tick(), "release a k")
	if clock := g.State().Clock; clock != api.MaxClock {
		t.Errorf("the clock is %d", clock)
	}
	mustRefuse(t, g, tick(), api.ErrOver)
	// Neither leases end, nor is there a pass.
	s.Clock = api.MaxClock
	g = loaded(t, s)
	mustDo(t, g, submit(task("z", 9, 1)))
	mustRefuse(t, g, tick(), api.ErrOver)
	if !machine(t, g, "k").Up || job(t, g, "z").Node != "" {
		t.Error("the rejected tick did something")
	}
}

func TestLeases(t *testing.T) {
	g := begun(t, wide(), []api.Op{addNode("n", api.Res{1, 0, 0})}, tasks(task("a", 0, 1)))
	mustDo(t, g, tick(), "bind a n")
	for range 3 {
		mustDo(t, g, tick())
	}
	if m := machine(t, g, "n"); !m.Up || m.Until != 4 || g.State().Clock != 4 {
		t.Errorf("at %d n is %+v", g.State().Clock, m)
	}
	mustDo(t, g, tick(), "release a n")
	want := api.State{
		Clock: 5, Next: 2,
		Machines: []api.Machine{{Node: api.Node{Name: "n", Cap: api.Res{1, 0, 0}}, Until: 4}},
		Queues:   []api.Queue{{Name: "q", Quota: api.Res{1000, 1000, 1000}}},
		Jobs:     []api.Job{{Task: task("a", 0, 1), Seq: 1, Bound: 1}},
	}
	mustHave(t, g, want)
	for clock := 6; clock < 12; clock++ {
		mustDo(t, g, tick())
		want.Clock = clock
		mustHave(t, g, want)
	}
}

func TestBeatsKeepAMachineUp(t *testing.T) {
	g := begun(t, wide(), []api.Op{addNode("n", api.Res{1, 0, 0})}, tasks(task("a", 0, 1)), []api.Op{tick()})
	for range 5 {
		mustDo(t, g, named(api.Beat, "n"))
		for range api.Lease {
			mustDo(t, g, tick())
		}
	}
	mustDo(t, g, named(api.Beat, "n"))
	for range api.Lease {
		mustDo(t, g, tick())
	}
	mustDo(t, g, tick(), "release a n")
}

func TestWhatIsReleasedIsInTheOrderOfMachinesAndNumbers(t *testing.T) {
	want := func(label string, k api.Task) api.Task {
		return wanting(k, api.Label{Key: "a", Value: label})
	}
	node := func(name string) api.Op {
		return addNode(name, api.Res{9, 0, 0}, api.Label{Key: "a", Value: name})
	}
	g := begun(t, wide(), []api.Op{node("z"), node("b"), node("m")},
		tasks(want("z", task("e", 1, 1)), want("b", task("d", 1, 1)), want("m", task("c", 9, 1)), want("z", task("b", 5, 1)), want("b", task("a", 7, 1))),
		[]api.Op{tick(), tick(), named(api.Beat, "m"), tick(), tick()})
	mustDo(t, g, tick(), "release d b", "release a b", "release e z", "release b z")
	if j := job(t, g, "c"); j.Node != "m" {
		t.Errorf("c is %+v", j)
	}
	mustDo(t, g, named(api.Beat, "z"))
	mustDo(t, g, tick(), "bind b z", "bind e z")
	mustDo(t, g, tick(), "release c m")
}

func TestWhatIsReleasedIsTriedAtOnce(t *testing.T) {
	g := begun(t, wide(), []api.Op{addNode("a", api.Res{3, 0, 0}), addNode("b", api.Res{4, 0, 0})}, tasks(task("x", 1, 3), task("y", 2, 3)), []api.Op{tick()})
	if x, y := job(t, g, "x"), job(t, g, "y"); x.Node != "b" || y.Node != "a" {
		t.Fatalf("%+v, %+v", x, y)
	}
	mustDoAll(t, g, []api.Op{named(api.Beat, "b"), tick(), tick(), tick()})
	mustDo(t, g, tick(), "release y a", "evict x b", "bind y b")
	if x, y := job(t, g, "x"), job(t, g, "y"); x.Node != "" || x.Bound != 1 || y.Node != "b" || y.Bound != 2 {
		t.Errorf("%+v, %+v", x, y)
	}
}

func TestTasksAreTriedInTheirOrder(t *testing.T) {
	g := begun(t, wide(), []api.Op{addNode("n", api.Res{3, 0, 0})},
		tasks(task("a", 1, 1), task("b", 3, 1), task("c", 2, 1), task("d", 3, 1), task("e", 0, 1)))
	mustDo(t, g, tick(), "bind b n", "bind d n", "bind c n")
	mustDo(t, g, named(api.Finish, "b"))
	mustDo(t, g, named(api.Finish, "c"))
	mustDo(t, g, tick(), "bind a n", "bind e n")
}

func TestTheBestMachineIsTaken(t *testing.T) {
	g := begun(t, wide(), []api.Op{addNode("a", api.Res{8, 0, 0}), addNode("c", api.Res{4, 0, 0}), addNode("b", api.Res{4, 0, 0})},
		tasks(task("w", 4, 3), task("x", 3, 3), task("y", 2, 3), task("z", 1, 3)))
	mustDo(t, g, tick(), "bind w b", "bind x c", "bind y a", "bind z a")
}

func TestAMachineMustBeAbleToRunATask(t *testing.T) {
	gpu := api.Label{Key: "gpu", Value: "1"}
	g := begun(t, wide(), []api.Op{addNode("a", api.Res{5, 1, 0}), addNode("b", api.Res{4, 1, 0}, gpu)},
		tasks(wanting(task("w", 9, 1), gpu), wanting(task("x", 9, 1), gpu, api.Label{Key: "ssd", Value: "1"}), apart("y", task("y", 8, 1)), apart("y", task("z", 8, 1)), apart("y", task("v", 8, 1))))
	mustDo(t, g, tick(), "bind w b", "bind y b", "bind z a")
	mustDo(t, g, tick())
	mustDo(t, g, named(api.Finish, "y"))
	mustDo(t, g, tick(), "bind v b")
	mustDo(t, g, addNode("c", api.Res{1, 0, 0}, gpu, api.Label{Key: "ssd", Value: "1"}))
	mustDo(t, g, tick(), "bind x c")
}

func TestATaskThatFitsNowhereDoesNotHoldUpOthers(t *testing.T) {
	g := begun(t, wide(), []api.Op{addNode("n", api.Res{2, 0, 0})}, tasks(task("a", 9, 3), task("b", 1, 2)))
	mustDo(t, g, tick(), "bind b n")
	mustDo(t, g, tick())
}

func TestBoundCountsHowOftenATaskWasBound(t *testing.T) {
	g := begun(t, wide(), tasks(task("a", 1, 1)))
	for count := 1; count < 5; count++ {
		mustDo(t, g, addNode("n", api.Res{1, 0, 0}))
		mustDo(t, g, tick(), "bind a n")
		if a := job(t, g, "a"); a.Bound != count || a.Node != "n" || a.Seq != 1 {
			t.Errorf("a is %+v", a)
		}
		mustDo(t, g, named(api.DropNode, "n"), "release a n")
		if a := job(t, g, "a"); a.Bound != count || a.Node != "" || a.Seq != 1 {
			t.Errorf("a is %+v", a)
		}
	}
}

func TestTheGreatestBoundIsIncrementedToo(t *testing.T) {
	// Only a state that is laid by hand can have it.
	s := rich()
	s.Jobs = s.Jobs[:1]
	s.Jobs[0].Task.Gang, s.Jobs[0].Task.Size, s.Jobs[0].Bound = "", 0, 1<<40
	g := loaded(t, s)
	mustDo(t, g, tick(), "bind d m")
	if d := job(t, g, "d"); d.Bound != 1<<40+1 {
		t.Errorf("d is %+v", d)
	}
}

func TestAGangIsBoundTogether(t *testing.T) {
	g := begun(t, wide(), []api.Op{addNode("m", api.Res{3, 0, 0}), addNode("n", api.Res{2, 0, 0})},
		tasks(in("g", 3, task("a", 5, 2)), in("g", 3, task("b", 5, 2)), task("c", 1, 1)))
	mustDo(t, g, tick(), "bind c n") // two of three
	mustDo(t, g, submit(in("g", 3, task("d", 5, 1))))
	// Each of them has a machine, but not all of them together.
	mustDo(t, g, tick())
	mustDo(t, g, named(api.Finish, "c"))
	mustDo(t, g, tick(), "bind a n", "bind b m", "bind d m")
}

func TestAGangThatIsNotBoundTakesNothing(t *testing.T) {
	g := begun(t, wide(), []api.Op{addNode("m", api.Res{2, 0, 0}), addNode("n", api.Res{2, 0, 0})},
		tasks(in("g", 3, task("a", 5, 2)), in("g", 3, task("b", 5, 2)), in("g", 3, task("c", 5, 1)), task("x", 1, 2), task("y", 1, 1)))
	want := g.State()
	mustDo(t, g, tick(), "bind x m", "bind y n")
	want.Clock = 1
	want.Jobs[3].Node, want.Jobs[3].Bound = "m", 1
	want.Jobs[4].Node, want.Jobs[4].Bound = "n", 1
	mustHave(t, g, want)
}

func TestTheTasksOfAGangSeeEachOther(t *testing.T) {
	member := func(name string) api.Task {
		return apart("x", in("g", 2, task(name, 5, 1)))
	}
	g := begun(t, wide(), []api.Op{addNode("n", api.Res{9, 0, 0})}, tasks(member("a"), member("b")))
	mustDo(t, g, tick())
	mustDo(t, g, addNode("m", api.Res{1, 0, 0}))
	mustDo(t, g, tick(), "bind a m", "bind b n")
}

func TestWhatIsLeftOfAGang(t *testing.T) {
	g := begun(t, wide(), []api.Op{addNode("n", api.Res{9, 0, 0})}, tasks(in("g", 2, task("a", 5, 3)), in("g", 2, task("b", 5, 3))), []api.Op{tick()})
	mustDo(t, g, submit(in("g", 2, task("c", 5, 3))))
	mustDo(t, g, tick(), "bind c n") // the others are bound
	mustDo(t, g, named(api.Finish, "a"))
	mustDo(t, g, named(api.Finish, "b"))
	mustDo(t, g, named(api.DropNode, "n"), "release c n")
	mustDo(t, g, addNode("n", api.Res{9, 0, 0}))
	mustDo(t, g, tick()) // it is alone
}

func TestAGangDoesNotPreempt(t *testing.T) {
	g := begun(t, wide(), []api.Op{addNode("n", api.Res{4, 0, 0})}, tasks(task("a", 1, 2), task("b", 1, 2)), []api.Op{tick()})
	mustDoAll(t, g, tasks(in("g", 2, task("x", 9, 2)), in("g", 2, task("y", 9, 2))))
	mustDo(t, g, tick())
	mustDo(t, g, named(api.Finish, "a"))
	mustDo(t, g, tick())
	// Not even the only one that waits of it.
	mustDo(t, g, named(api.Finish, "b"))
	mustDo(t, g, tick(), "bind x n", "bind y n")
	mustDo(t, g, named(api.Finish, "y"))
	mustDo(t, g, submit(task("c", 1, 2)))
	mustDo(t, g, named(api.Beat, "n"))
	mustDo(t, g, tick(), "bind c n")
	mustDo(t, g, submit(in("g", 2, task("z", 9, 2))))
	mustDo(t, g, tick())
	mustDo(t, g, named(api.Cancel, "c"), "release c n")
	mustDo(t, g, tick(), "bind z n")
}

func TestATaskOfAGangCanBeEvicted(t *testing.T) {
	g := begun(t, wide(), []api.Op{addNode("n", api.Res{4, 0, 0})}, tasks(in("g", 2, task("a", 1, 2)), in("g", 2, task("b", 1, 2))), []api.Op{tick()})
	mustDo(t, g, submit(task("h", 2, 1)))
	mustDo(t, g, tick(), "evict b n", "bind h n")
	mustDo(t, g, tick())
	mustDo(t, g, named(api.Finish, "h"))
	mustDo(t, g, tick(), "bind b n") // its gang is complete
}

func TestEvictionsAreInTheOrderOfTheVictims(t *testing.T) {
	g := begun(t, wide(), []api.Op{addNode("n", api.Res{10, 0, 0})},
		tasks(task("a", 2, 2), task("b", 1, 2), task("c", 3, 2), task("d", 1, 2), task("e", 2, 2)), []api.Op{tick()})
	mustDo(t, g, submit(task("h", 3, 7)))
	mustDo(t, g, tick(), "evict d n", "evict b n", "evict e n", "evict a n", "bind h n")
	if c := job(t, g, "c"); c.Node != "n" || c.Bound != 1 {
		t.Errorf("c is %+v", c)
	}
}

func TestTheMachineWithTheFewestVictimsIsTaken(t *testing.T) {
	g := begun(t, wide(), []api.Op{addNode("a", api.Res{4, 0, 0}), addNode("b", api.Res{5, 0, 0})}, tasks(task("v", 1, 5), task("w", 0, 2), task("x", 0, 2)), []api.Op{tick()})
	mustDo(t, g, submit(task("h", 2, 4)))
	mustDo(t, g, tick(), "evict v b", "bind h b")
}

func TestRoomIsTakenBeforeAnythingIsEvicted(t *testing.T) {
	g := begun(t, wide(), []api.Op{addNode("a", api.Res{2, 0, 0})}, tasks(task("v", 1, 2)), []api.Op{tick()})
	mustDo(t, g, addNode("b", api.Res{900, 0, 0}))
	mustDo(t, g, submit(task("h", 9, 2)))
	mustDo(t, g, tick(), "bind h b")
}

func TestOnlyWeakerTasksAreEvicted(t *testing.T) {
	g := begun(t, wide(), []api.Op{addNode("n", api.Res{4, 0, 0})}, tasks(task("a", 3, 2), task("b", 2, 2)), []api.Op{tick()})
	mustDo(t, g, submit(task("h", 2, 2)))
	mustDo(t, g, tick())
	mustDo(t, g, submit(task("i", 3, 3)))
	want := g.State()
	mustDo(t, g, tick())
	want.Clock++
	mustHave(t, g, want)
	mustDo(t, g, submit(task("j", 3, 2)))
	mustDo(t, g, tick(), "evict b n", "bind j n")
}

func TestWhatIsEvictedWaitsForTheNextPass(t *testing.T) {
	gpu := api.Label{Key: "gpu", Value: "1"}
	g := begun(t, wide(), []api.Op{addNode("a", api.Res{2, 0, 0}, gpu)}, tasks(task("v", 1, 2)), []api.Op{tick()})
	mustDo(t, g, addNode("b", api.Res{9, 0, 0}))
	mustDo(t, g, submit(wanting(task("h", 9, 2), gpu)))
	mustDo(t, g, tick(), "evict v a", "bind h a")
	if v := job(t, g, "v"); v.Node != "" || v.Bound != 1 {
		t.Errorf("v is %+v", v)
	}
	mustDo(t, g, tick(), "bind v b")
	if v := job(t, g, "v"); v.Node != "b" || v.Bound != 2 {
		t.Errorf("v is %+v", v)
	}
}

func TestLaterUnitsSeeWhatEarlierOnesDid(t *testing.T) {
	g := begun(t, wide(), []api.Op{addNode("n", api.Res{6, 0, 0})}, tasks(task("v", 1, 6)), []api.Op{tick()})
	mustDoAll(t, g, tasks(task("h", 3, 2), task("i", 2, 3), task("j", 0, 1), task("k", 0, 1)))
	mustDo(t, g, tick(), "evict v n", "bind h n", "bind i n", "bind j n")
	// What came later in this pass goes first in the next one.
	mustDo(t, g, submit(task("l", 4, 3)))
	mustDo(t, g, tick(), "evict j n", "evict i n", "bind l n", "bind k n")
}

func TestWhatIsBoundInAPassCanBeEvictedInIt(t *testing.T) {
	g := begun(t, wide(), []api.Op{addNode("n", api.Res{4, 0, 0})},
		tasks(in("g", 2, task("a", 5, 2)), in("g", 2, task("b", 1, 2)), task("h", 3, 2)))
	mustDo(t, g, tick(), "bind a n", "bind b n", "evict b n", "bind h n")
	if b := job(t, g, "b"); b.Node != "" || b.Bound != 1 {
		t.Errorf("b is %+v", b)
	}
}

func TestMachinesThatAreDownAreNotUsed(t *testing.T) {
	g := begun(t, wide(), []api.Op{addNode("n", api.Res{4, 0, 0}), tick(), tick(), tick(), tick(), tick()}, tasks(task("a", 1, 1)))
	mustDo(t, g, tick())
	mustDo(t, g, addNode("o", api.Res{9, 0, 0}))
	mustDo(t, g, tick(), "bind a o")
	if names := machineNames(g); !slices.Equal(names, []string{"n", "o"}) {
		t.Errorf("the machines are %q", names)
	}
}

func TestNoOtherOperationBindsAnything(t *testing.T) {
	g := begun(t, wide(), tasks(task("a", 1, 1)), []api.Op{addNode("n", api.Res{4, 0, 0})})
	for _, o := range []api.Op{
		addNode("m", api.Res{4, 0, 0}), addQueue("p", api.Res{}), named(api.Beat, "n"), named(api.DropQueue, "p"),
		named(api.DropNode, "m"), submit(task("b", 9, 1)), named(api.Cancel, "b"),
	} {
		mustDo(t, g, o)
		if a := job(t, g, "a"); a.Node != "" || a.Bound != 0 || g.State().Clock != 0 {
			t.Errorf("after %+v, a is %+v", o, a)
		}
	}
	mustDo(t, g, tick(), "bind a n")
}
