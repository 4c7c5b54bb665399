package gen2_test

import (
	"slices"
	"strconv"
	"testing"

	"interregnum/api"
)

var gpu, ssd = api.Label{Key: "gpu", Value: "1"}, api.Label{Key: "ssd", Value: "1"}

// roomy adds a node with some of the first resource.
func roomy(name string, room int, labels ...api.Label) api.Op {
	return addNode(name, api.Res{room, 0, 0}, labels...)
}

// home tells where a job is, and how often it was bound.
func (w twins) home(name string) string {
	w.t.Helper()
	for _, j := range w.other.State().Jobs {
		if j.Task.Name == name {
			return j.Node + " " + strconv.Itoa(j.Bound)
		}
	}
	w.t.Fatalf("there is no job %s", name)
	return ""
}

func TestTheTopsOfTheQueuesAreMerged(t *testing.T) {
	w := begun(t, wide(), addQueue("p", api.Res{9, 0, 0}), addQueue("r", api.Res{9, 0, 0}), addQueue("o", api.Res{9, 0, 0}), roomy("n", 9),
		submit("a", 1, 1, of("r")), submit("b", 3, 1), submit("c", 2, 1, of("p")), submit("d", 3, 1, of("p")),
		submit("e", 0, 1), submit("f", 3, 1, of("r")), submit("g", 3, 1), submit("h", 9, 1, of("r")))
	w.must(tick(), "bind h n", "bind b n", "bind d n", "bind f n", "bind g n", "bind c n", "bind a n", "bind e n")
}

func TestTheBestMachineIsTaken(t *testing.T) {
	w := begun(t, wide(), roomy("a", 8), roomy("c", 4), roomy("b", 4),
		submit("w", 4, 3), submit("x", 3, 3), submit("y", 2, 3), submit("z", 1, 3), submit("v", 0, 3))
	w.must(tick(), "bind w b", "bind x c", "bind y a", "bind z a")
	// It is the share of the Cap that counts, not what is left, and each resource does.
	v := begun(t, wide(), addNode("a", api.Res{4, 8, 0}), addNode("b", api.Res{100, 8, 1}), addNode("c", api.Res{8, 8, 8}), submit("w", 4, 3))
	v.must(tick(), "bind w a")
	v.must(named(api.DropNode, "a"), "release w a")
	v.must(tick(), "bind w c")
}

func TestAMachineMustHaveRoomAndLabels(t *testing.T) {
	w := begun(t, wide(), addNode("a", api.Res{5, 1, 0}), addNode("b", api.Res{4, 1, 0}, gpu), roomy("c", 1, gpu, ssd),
		submit("w", 9, 2, wanting(gpu)), submit("x", 9, 1, wanting(gpu, ssd)), submit("y", 8, 6), submit("z", 8, 1, wanting(api.Label{Key: "gpu", Value: "2"})),
		submit("v", 1, 3, wanting(gpu)))
	w.must(tick(), "bind w b", "bind x c")
	w.must(named(api.Finish, "w"))
	w.must(tick(), "bind v b")
}

func TestTasksAreKeptApart(t *testing.T) {
	w := begun(t, wide(), roomy("a", 9), roomy("b", 9), submit("w", 5, 1, apart("x")), submit("x", 4, 1, apart("x")),
		submit("y", 9, 1, apart("x")), submit("z", 1, 1, apart("y")), submit("v", 1, 1))
	w.must(tick(), "bind y a", "bind w b", "bind z a", "bind v a")
	// Not even one that could be evicted makes room.
	w.must(submit("h", 9, 1, apart("x")))
	w.must(tick())
	w.must(named(api.Finish, "w"))
	w.must(tick(), "bind h b")
	w.must(named(api.Finish, "y"))
	w.must(tick(), "bind x a")
}

func TestAGangIsBoundTogether(t *testing.T) {
	w := begun(t, wide(), addQueue("p", api.Res{9, 0, 0}), roomy("m", 3), roomy("n", 2),
		submit("a", 5, 2, in("g", 3)), submit("b", 5, 2, in("g", 3), of("p")), submit("c", 1, 1))
	w.must(tick(), "bind c n") // two of three
	w.must(submit("d", 5, 1, in("g", 3)))
	// Each of them has a machine, but not all of them together.
	w.must(tick())
	if a, b, d := w.home("a"), w.home("b"), w.home("d"); a != " 0" || b != " 0" || d != " 0" {
		t.Errorf("%q, %q, %q", a, b, d)
	}
	w.must(named(api.Finish, "c"))
	w.must(tick(), "bind a n", "bind b m", "bind d m")
	w.must(submit("e", 5, 0, in("g", 4)))
	w.must(tick(), "bind e m") // the others are bound
}

func TestAGangIsTriedWhereTheFirstOfItIs(t *testing.T) {
	w := begun(t, wide(), roomy("n", 9), submit("a", 1, 1, in("g", 2)), submit("b", 3, 1), submit("c", 4, 1, in("g", 2)), submit("d", 2, 1))
	w.must(tick(), "bind c n", "bind a n", "bind b n", "bind d n")
}

func TestTheSizeIsThatOfTheFirstOfAGang(t *testing.T) {
	w := begun(t, wide(), roomy("n", 9), submit("a", 1, 1, in("g", 2)), submit("b", 3, 1, in("g", 4)), submit("c", 2, 1, in("g", 3)))
	w.must(tick())
	w.must(named(api.Cancel, "b"))
	w.must(tick())
	w.must(named(api.Cancel, "c"))
	w.must(submit("d", 0, 1, in("g", 4)))
	w.must(tick(), "bind a n", "bind d n")
}

func TestAGangThatIsNotBoundTakesNothing(t *testing.T) {
	w := begun(t, wide(), roomy("m", 2), roomy("n", 2), submit("a", 5, 2, in("g", 3)), submit("b", 5, 2, in("g", 3)),
		submit("c", 5, 1, in("g", 3)), submit("x", 1, 2), submit("y", 1, 1))
	want := w.other.State()
	w.must(tick(), "bind x m", "bind y n")
	want.Clock = 1
	want.Jobs[3].Node, want.Jobs[3].Bound = "m", 1
	want.Jobs[4].Node, want.Jobs[4].Bound = "n", 1
	w.has(want)
}

func TestTheTasksOfAGangSeeEachOther(t *testing.T) {
	w := begun(t, wide(), roomy("n", 9), submit("a", 5, 1, in("g", 2), apart("x")), submit("b", 5, 1, in("g", 2), apart("x")))
	w.must(tick())
	w.must(roomy("m", 1))
	w.must(tick(), "bind a m", "bind b n")
}

func TestAGangDoesNotPreempt(t *testing.T) {
	w := begun(t, wide(), roomy("n", 4), submit("a", 1, 4), tick(), submit("x", 9, 2, in("g", 2)), submit("y", 9, 2, in("g", 2)))
	w.must(tick())
	w.must(named(api.Finish, "a"))
	w.must(tick(), "bind x n", "bind y n")
	w.all(named(api.Finish, "y"), submit("c", 1, 2), tick(), submit("z", 9, 2, in("g", 2)))
	// Not even the only one of it that waits.
	w.must(named(api.Beat, "n"))
	w.must(tick())
	w.must(named(api.Cancel, "c"), "release c n")
	w.must(tick(), "bind z n")
}

func TestATaskOfAGangCanBeEvicted(t *testing.T) {
	w := begun(t, wide(), roomy("n", 4), submit("a", 1, 2, in("g", 2)), submit("b", 1, 2, in("g", 2)), tick(), submit("h", 2, 1))
	w.must(tick(), "evict b n", "bind h n")
	w.must(tick())
	w.must(named(api.Finish, "h"))
	w.must(tick(), "bind b n") // its gang is complete
}

func TestEvictionsAreInTheirOrder(t *testing.T) {
	w := begun(t, wide(), roomy("n", 10), submit("a", 2, 2), submit("b", 1, 2), submit("c", 3, 2), submit("d", 1, 2), submit("e", 2, 2), tick())
	w.must(submit("h", 3, 7))
	w.must(tick(), "evict d n", "evict b n", "evict e n", "evict a n", "bind h n")
	if c, d := w.home("c"), w.home("d"); c != "n 1" || d != " 1" {
		t.Errorf("%q, %q", c, d)
	}
}

func TestTheLeastPreemptionIsTaken(t *testing.T) {
	// The fewest jobs, even if their Prio is higher.
	few := begun(t, wide(), roomy("a", 4, gpu), roomy("b", 4, ssd), submit("w", 0, 2, wanting(gpu)), submit("x", 0, 2, wanting(gpu)), submit("v", 1, 4, wanting(ssd)), tick())
	few.must(submit("h", 2, 4))
	few.must(tick(), "evict v b", "bind h b")
	// Of as few, the lowest Prio of the last one.
	low := begun(t, wide(), roomy("a", 4, gpu), roomy("b", 4, ssd), submit("w", 2, 4, wanting(gpu)), submit("v", 1, 4, wanting(ssd)), tick())
	low.must(submit("h", 3, 4))
	low.must(tick(), "evict v b", "bind h b")
	// It is the last one that counts, not the first one.
	last := begun(t, wide(), roomy("a", 4, gpu), roomy("b", 4, ssd), submit("w", 0, 2, wanting(gpu)), submit("x", 3, 2, wanting(gpu)),
		submit("v", 2, 2, wanting(ssd)), submit("u", 1, 2, wanting(ssd)), tick())
	last.must(submit("h", 9, 4))
	last.must(tick(), "evict u b", "evict v b", "bind h b")
	// Of the same, the least name; what is left does not matter.
	name := begun(t, wide(), roomy("b", 4, gpu), roomy("a", 9, ssd), submit("w", 1, 4, wanting(gpu)), submit("v", 1, 9, wanting(ssd)), tick())
	name.must(submit("h", 3, 4))
	name.must(tick(), "evict v a", "bind h a")
}

func TestWhereNothingCanBeEvicted(t *testing.T) {
	w := begun(t, wide(), roomy("n", 4), roomy("o", 1, gpu), submit("a", 3, 2), submit("b", 2, 2), tick())
	for _, o := range []api.Op{submit("h", 2, 2), submit("i", 3, 3), submit("j", 9, 5), submit("k", 9, 2, wanting(gpu)), submit("l", 9, 1, wanting(ssd))} {
		w.must(o)
		w.must(named(api.Beat, "n"))
		w.must(tick())
	}
	w.must(submit("m", 3, 2))
	w.must(tick(), "evict b n", "bind m n")
}

func TestRoomIsTakenBeforeAnythingIsEvicted(t *testing.T) {
	w := begun(t, wide(), roomy("a", 2), submit("v", 1, 2), tick(), roomy("b", 900), submit("h", 9, 2))
	w.must(tick(), "bind h b")
}

func TestWhatIsEvictedWaitsForTheNextPass(t *testing.T) {
	w := begun(t, wide(), roomy("a", 2, gpu), submit("v", 1, 2), tick(), roomy("b", 9), submit("h", 9, 2, wanting(gpu)), submit("z", 0, 1))
	w.must(tick(), "evict v a", "bind h a", "bind z b")
	if v := w.home("v"); v != " 1" {
		t.Errorf("v: %q", v)
	}
	w.must(tick(), "bind v b")
	if v := w.home("v"); v != "b 2" {
		t.Errorf("v: %q", v)
	}
}

func TestWhatIsBoundInAPassCanBeEvictedInIt(t *testing.T) {
	w := begun(t, wide(), roomy("n", 4), submit("a", 5, 2, in("g", 2)), submit("b", 1, 2, in("g", 2)), submit("h", 3, 2))
	w.must(tick(), "bind a n", "bind b n", "evict b n", "bind h n")
	if b := w.home("b"); b != " 1" {
		t.Errorf("b: %q", b)
	}
	w.must(named(api.Cancel, "b"))
}

func TestLeases(t *testing.T) {
	w := begun(t, wide(), roomy("z", 3), roomy("b", 2), roomy("m", 1), submit("d", 1, 2), submit("c", 9, 3), submit("a", 2, 1))
	w.must(tick(), "bind c z", "bind a m", "bind d b")
	w.must(tick())
	w.must(named(api.Beat, "m"))
	w.must(tick())
	w.must(tick())
	// By the names of the machines; what is released is tried at once.
	w.must(tick(), "release d b", "release c z")
	w.must(tick())
	w.must(tick(), "release a m")
	w.must(named(api.Beat, "z"))
	w.must(tick(), "bind c z")
	if s := w.other.State(); s.Machines[0].Up || s.Machines[0].Until != 4 || s.Machines[1].Up || s.Machines[1].Until != 6 || !s.Machines[2].Up || s.Machines[2].Until != 11 {
		t.Errorf("the machines are %+v", s.Machines)
	}
}

func TestWhatIsReleasedIsInTheOrderOfItsNumbers(t *testing.T) {
	ops := []api.Op{wide(), roomy("n", 9)}
	for i, name := range []string{"m", "c", "z", "a", "k", "b", "y"} {
		ops = append(ops, submit(name, (i*5)%7, 1))
	}
	released := []string{"release m n", "release c n", "release z n", "release a n", "release k n", "release b n", "release y n"}
	begun(t, append(ops, tick())...).must(named(api.DropNode, "n"), released...)
	w := begun(t, append(ops, tick(), tick(), tick(), tick())...)
	w.must(tick(), released...)
}

func TestCancelAndFinish(t *testing.T) {
	w := begun(t, wide(), roomy("n", 4), submit("a", 3, 2), submit("b", 2, 2), submit("c", 1, 2), submit("d", 0, 2))
	w.refuses(api.ErrState, named(api.Finish, "a"))
	w.must(named(api.Cancel, "a")) // never bound
	w.must(tick(), "bind b n", "bind c n")
	w.must(named(api.Cancel, "b"), "release b n")
	w.refuses(api.ErrNone, named(api.Cancel, "b"), named(api.Finish, "b"), named(api.Cancel, "n"), named(api.Finish, "q"))
	w.must(named(api.Finish, "c"))
	w.must(tick(), "bind d n")
	w.must(named(api.DropNode, "n"), "release d n")
	w.refuses(api.ErrState, named(api.Finish, "d"))
	w.must(named(api.Cancel, "d")) // bound before
	w.refuses(api.ErrNone, named(api.Finish, "d"))
	w.must(named(api.DropQueue, "q"))
}

func TestNodesAreRefused(t *testing.T) {
	w := begun(t)
	for i := range api.MaxNodes {
		w.must(roomy("n"+strconv.Itoa(i), i))
	}
	w.refuses(api.ErrDup, roomy("n3", 3), roomy("n0", 9, gpu))
	w.refuses(api.ErrFull, roomy("o", 1))
	w.refuses(api.ErrNone, named(api.DropNode, "o"), named(api.Beat, "o"))
	w.refuses(api.ErrArg, roomy("N", 1), roomy("n3", -1), named(api.DropNode, ""), named(api.Beat, "-"))
	w.must(named(api.DropNode, "n3"))
	w.must(roomy("o", 1))
	w.refuses(api.ErrNone, named(api.Beat, "n3"))
}

func TestQueuesAreRefused(t *testing.T) {
	w := begun(t, roomy("n", 4))
	for i := range api.MaxQueues {
		w.must(addQueue("q"+strconv.Itoa(i), api.Res{9, 0, 0}))
	}
	w.refuses(api.ErrDup, addQueue("q3", api.Res{}))
	w.refuses(api.ErrFull, addQueue("o", api.Res{}))
	w.refuses(api.ErrNone, named(api.DropQueue, "o"), named(api.DropQueue, "n"))
	w.refuses(api.ErrArg, addQueue("q3", api.Res{-1, 0, 0}), named(api.DropQueue, ""))
	w.all(submit("a", 0, 4, of("q3")), submit("b", 0, 4, of("q3")), tick(), named(api.Cancel, "b"))
	w.refuses(api.ErrBusy, named(api.DropQueue, "q3")) // by one that is bound
	w.must(named(api.DropNode, "n"), "release a n")
	w.refuses(api.ErrBusy, named(api.DropQueue, "q3")) // by one that waits
	w.must(named(api.DropQueue, "q4"))
	w.must(named(api.Cancel, "a"))
	w.must(named(api.DropQueue, "q3"))
	w.refuses(api.ErrNone, submit("a", 0, 1, of("q3")), named(api.DropQueue, "q3"))
}

func TestTasksAreRefused(t *testing.T) {
	w := begun(t, addQueue("q", api.Res{5, 5, most}), addQueue("p", api.Res{9, 0, 0}), roomy("n", 3), submit("a", 1, 3), submit("b", 0, 9, of("p")), tick())
	w.refuses(api.ErrQuota, submit("c", 0, 3), submit("c", 0, most), submit("c", 0, 0, func(k *api.Task) { k.Need[1] = 6 }))
	w.refuses(api.ErrDup, submit("a", 0, 9, of("o")), submit("b", 0, 1))
	w.refuses(api.ErrNone, submit("c", 0, 9, of("o")), submit("c", 0, 1, of("n")))
	w.refuses(api.ErrArg, submit("a", -1, 1, of("o")), submit("C", 0, 1), submit("c", 0, -1))
	w.must(submit("c", 0, 2, func(k *api.Task) { k.Need = api.Res{2, 5, most} }))
	// The sum would be above what a vector can have.
	w.refuses(api.ErrQuota, submit("d", 0, 0, func(k *api.Task) { k.Need[2] = most }), submit("d", 0, 0, func(k *api.Task) { k.Need[2] = 1 }))
	w.must(submit("d", 0, 0))
	w.must(named(api.Finish, "a"))
	w.must(submit("e", 0, 3))
}

func TestTasksAreRefusedWhenThereAreTooMany(t *testing.T) {
	w := begun(t, addQueue("q", api.Res{}))
	for i := range api.MaxTasks {
		w.must(submit("t"+strconv.Itoa(i), 0, 0))
	}
	w.refuses(api.ErrFull, submit("a", 0, 0), submit("a", 0, 9))
	w.refuses(api.ErrDup, submit("t7", 0, 0))
	w.refuses(api.ErrNone, submit("a", 0, 0, of("p")))
	w.must(named(api.Cancel, "t7"))
	w.must(submit("a", 0, 0))
}

func TestTheGreatestNumbers(t *testing.T) {
	s := rich()
	s.Clock, s.Next = api.MaxClock-1, api.MaxClock-1
	s.Machines[0].Until, s.Machines[2].Until = api.MaxClock-1, api.MaxClock+api.Lease
	s.Jobs[0].Task.Gang, s.Jobs[0].Task.Size, s.Jobs[0].Bound = "", 0, 1<<40
	w := loaded(t, s)
	w.must(submit("e", 9, 0))
	w.refuses(api.ErrOver, submit("f", 9, 0))
	w.refuses(api.ErrQuota, submit("f", 9, 9))
	w.must(tick(), "release a k", "bind e m")
	w.refuses(api.ErrOver, tick())
	w.must(named(api.Finish, "b"))
	w.must(named(api.Beat, "k"))
	w.refuses(api.ErrOver, tick())
	// The greatest Bound is incremented, too.
	s.Clock = 1
	w = loaded(t, s)
	w.must(named(api.Finish, "b"))
	w.must(tick(), "bind d m")
	if d := w.home("d"); d != "m 1099511627777" {
		t.Errorf("d: %q", d)
	}
}

func TestOperationsThatAreNotValid(t *testing.T) {
	w := loaded(t, rich())
	for _, kind := range []int{-1, 0, api.Tick + 1, 1 << 40} {
		w.refuses(api.ErrArg, api.Op{Kind: kind}, named(kind, "a"))
	}
	valid := []api.Op{
		addNode("n", api.Res{}), addQueue("r", api.Res{}), submit("t", 0, 0), tick(),
		named(api.DropNode, "m"), named(api.DropQueue, "o"), named(api.Cancel, "a"), named(api.Finish, "a"), named(api.Beat, "k"),
	}
	for _, o := range valid {
		for _, more := range []func(o *api.Op){
			func(o *api.Op) { o.Name += "A" },
			func(o *api.Op) { o.Node.Cap[0]-- },
			func(o *api.Op) { o.Queue.Quota[1]-- },
			func(o *api.Op) { o.Task.Wants = slices.Repeat([]api.Label{gpu}, 2) },
		} {
			wrong := o
			more(&wrong)
			w.refuses(api.ErrArg, wrong)
		}
		loaded(t, rich()).all(o)
	}
}
