package gen1_test

import (
	"slices"
	"strconv"
	"testing"

	"interregnum/api"
	"interregnum/gen1"
)

func jobNames(g *gen1.Scheduler) []string {
	var names []string
	for _, j := range g.State().Jobs {
		names = append(names, j.Task.Name)
	}
	return names
}

func TestSubmit(t *testing.T) {
	g := begun(t, wide(), []api.Op{addNode("n", api.Res{9, 9, 9})})
	b := api.Task{Name: "b", Queue: "q", Prio: 9, Need: api.Res{1, 2, 3}, Wants: []api.Label{{Key: "a", Value: "1"}, {Key: "b", Value: "2"}}, Apart: "x", Gang: "g", Size: 4}
	want := g.State()
	mustDo(t, g, submit(b))
	mustDo(t, g, submit(task("a", 0, 0)))
	want.Next = 3
	want.Jobs = []api.Job{{Task: b, Seq: 1}, {Task: task("a", 0, 0), Seq: 2}}
	mustHave(t, g, want)
}

func TestNumbersOfJobsAreNotUsedAgain(t *testing.T) {
	g := begun(t, wide(), tasks(task("a", 0, 0), task("b", 0, 0)))
	mustDo(t, g, named(api.Cancel, "b"))
	mustRefuse(t, g, submit(task("a", 0, 0)), api.ErrDup)
	mustDo(t, g, submit(task("b", 0, 0)))
	mustDo(t, g, named(api.Cancel, "a"))
	mustDo(t, g, submit(task("a", 0, 0)))
	if names := jobNames(g); !slices.Equal(names, []string{"b", "a"}) {
		t.Errorf("the jobs are %q", names)
	}
	if a, b, s := job(t, g, "a"), job(t, g, "b"), g.State(); b.Seq != 3 || a.Seq != 4 || s.Next != 5 {
		t.Errorf("%+v and %+v, and Next is %d", a, b, s.Next)
	}
}

// full is a scheduler with as many jobs as there can be, which use all of the quota of q.
func full(t *testing.T) *gen1.Scheduler {
	t.Helper()
	g := begun(t, []api.Op{addQueue("q", api.Res{api.MaxTasks, 0, 0}), addQueue("r", api.Res{9, 9, 9})})
	for i := range api.MaxTasks {
		mustDo(t, g, submit(task("t"+strconv.Itoa(i), 0, 1)))
	}
	return g
}

func TestSubmitRefuses(t *testing.T) {
	g := full(t)
	other := func(name, queue string, need int) api.Op {
		k := task(name, 0, need)
		k.Queue = queue
		return submit(k)
	}
	wrong := task("t3", 0, 1)
	wrong.Size = 2
	mustRefuse(t, g, submit(wrong), api.ErrArg)
	mustRefuse(t, g, other("t3", "s", 1), api.ErrDup)
	mustRefuse(t, g, other("t0", "q", 0), api.ErrDup)
	mustRefuse(t, g, other("t47", "r", 0), api.ErrDup)
	mustRefuse(t, g, other("u", "s", 1), api.ErrNone)
	mustRefuse(t, g, other("u", "p", 1), api.ErrNone)
	mustRefuse(t, g, other("u", "r", 1), api.ErrFull)
	mustRefuse(t, g, other("u", "q", 1), api.ErrFull)
	mustDo(t, g, named(api.Cancel, "t3"))
	mustRefuse(t, g, other("u", "q", 2), api.ErrQuota)
	mustRefuse(t, g, other("u", "r", 10), api.ErrQuota)
	mustDo(t, g, other("u", "q", 1))
	mustRefuse(t, g, other("t3", "q", 0), api.ErrFull)
	mustRefuse(t, gen1.New(), submit(task("a", 0, 0)), api.ErrNone)
}

func TestQuotaOfWhatIsSubmitted(t *testing.T) {
	g := begun(t, []api.Op{addQueue("q", api.Res{5, 5, 5}), addQueue("r", api.Res{5, 5, 5}), addNode("n", api.Res{9, 9, 9})})
	need := func(name, queue string, need api.Res) api.Op {
		return submit(api.Task{Name: name, Queue: queue, Need: need})
	}
	mustDo(t, g, need("a", "q", api.Res{3, 0, 0}))
	mustRefuse(t, g, need("b", "q", api.Res{3, 0, 0}), api.ErrQuota)
	mustRefuse(t, g, need("b", "q", api.Res{0, 0, 6}), api.ErrQuota)
	mustDo(t, g, need("c", "r", api.Res{3, 0, 0}))
	mustDo(t, g, need("b", "q", api.Res{2, 5, 5}))
	mustDo(t, g, tick(), "bind a n", "bind c n", "bind b n")
	mustRefuse(t, g, need("d", "q", api.Res{1, 0, 0}), api.ErrQuota)
	mustDo(t, g, need("d", "q", api.Res{}))
	mustDo(t, g, named(api.Finish, "a"))
	mustRefuse(t, g, need("a", "q", api.Res{4, 0, 0}), api.ErrQuota)
	mustDo(t, g, need("a", "q", api.Res{3, 0, 0}))
	mustRefuse(t, g, need("e", "r", api.Res{most, most, most}), api.ErrQuota)
}

func TestSubmitWithTheLastNumber(t *testing.T) {
	s := blank()
	s.Next, s.Queues = api.MaxClock-1, []api.Queue{{Name: "q", Quota: api.Res{1, 1, 1}}}
	g := loaded(t, s)
	mustDo(t, g, submit(task("a", 0, 0)))
	if a := job(t, g, "a"); a.Seq != api.MaxClock-1 || g.State().Next != api.MaxClock || !gen1.Right(g.State()) {
		t.Errorf("%+v, and Next is %d", a, g.State().Next)
	}
	mustRefuse(t, g, submit(task("b", 0, 0)), api.ErrOver)
	mustRefuse(t, g, submit(task("b", 0, 2)), api.ErrQuota)
	mustRefuse(t, g, submit(task("a", 0, 0)), api.ErrDup)
	mustDo(t, g, named(api.Cancel, "a"))
	mustRefuse(t, g, submit(task("a", 0, 0)), api.ErrOver)
	s.Next, s.Jobs = api.MaxClock, jobsBut(0)
	mustRefuse(t, loaded(t, s), submit(task("a", 0, 0)), api.ErrFull)
}

func TestCancel(t *testing.T) {
	g := begun(t, wide(), []api.Op{addNode("n", api.Res{4, 0, 0})}, tasks(task("a", 3, 2), task("b", 2, 2), task("c", 1, 2)))
	mustDo(t, g, named(api.Cancel, "a")) // never bound
	mustDo(t, g, tick(), "bind b n", "bind c n")
	mustDo(t, g, named(api.Cancel, "b"), "release b n")
	mustRefuse(t, g, named(api.Cancel, "b"), api.ErrNone)
	mustDo(t, g, named(api.DropNode, "n"), "release c n")
	mustDo(t, g, named(api.Cancel, "c")) // bound before
	mustRefuse(t, g, named(api.Cancel, "c"), api.ErrNone)
	if names := jobNames(g); len(names) > 0 {
		t.Errorf("the jobs are %q", names)
	}
}

func TestCancelLeavesTheOthers(t *testing.T) {
	g := begun(t, wide(), tasks(task("a", 0, 1), task("b", 0, 2), task("c", 0, 3), task("d", 0, 4)))
	want := g.State()
	mustDo(t, g, named(api.Cancel, "b"))
	want.Jobs = slices.Delete(want.Jobs, 1, 2)
	mustHave(t, g, want)
	mustDo(t, g, named(api.Cancel, "d"))
	mustDo(t, g, named(api.Cancel, "a"))
	want.Jobs = want.Jobs[1:2]
	mustHave(t, g, want)
}

func TestCancelMakesRoom(t *testing.T) {
	g := begun(t, []api.Op{addQueue("q", api.Res{6, 0, 0}), addNode("n", api.Res{3, 0, 0})}, tasks(task("a", 1, 3), task("b", 1, 3)), []api.Op{tick()})
	mustRefuse(t, g, submit(task("c", 1, 1)), api.ErrQuota)
	mustDo(t, g, named(api.Cancel, "a"), "release a n")
	mustDo(t, g, submit(task("c", 1, 1)))
	mustDo(t, g, tick(), "bind b n")
}

func TestFinish(t *testing.T) {
	g := begun(t, wide(), []api.Op{addNode("n", api.Res{3, 0, 0})}, tasks(task("a", 1, 3), task("b", 2, 3)))
	mustRefuse(t, g, named(api.Finish, "b"), api.ErrState)
	mustDo(t, g, tick(), "bind b n")
	mustRefuse(t, g, named(api.Finish, "a"), api.ErrState)
	mustDo(t, g, named(api.Finish, "b"))
	mustRefuse(t, g, named(api.Finish, "b"), api.ErrNone)
	mustDo(t, g, tick(), "bind a n")
	mustDo(t, g, named(api.DropNode, "n"), "release a n")
	mustRefuse(t, g, named(api.Finish, "a"), api.ErrState) // bound before, but not now
	if names := jobNames(g); !slices.Equal(names, []string{"a"}) {
		t.Errorf("the jobs are %q", names)
	}
}

func TestNamesOfOtherThingsAreNoTasks(t *testing.T) {
	g := begun(t, wide(), []api.Op{addNode("n", api.Res{})}, tasks(apart("x", in("g", 2, task("a", 0, 0)))))
	for _, name := range []string{"q", "n", "x", "g", "b", "a-", "0"} {
		mustRefuse(t, g, named(api.Cancel, name), api.ErrNone)
		mustRefuse(t, g, named(api.Finish, name), api.ErrNone)
	}
	for _, name := range []string{"", "A", "-a", "a\x00"} {
		mustRefuse(t, g, named(api.Cancel, name), api.ErrArg)
		mustRefuse(t, g, named(api.Finish, name), api.ErrArg)
	}
}

func TestOperationsThatAreNotValid(t *testing.T) {
	g := loaded(t, rich())
	for kind := -1; kind <= api.Tick+2; kind++ {
		if kind < api.AddNode || kind > api.Tick {
			mustRefuse(t, g, api.Op{Kind: kind}, api.ErrArg)
			mustRefuse(t, g, named(kind, "a"), api.ErrArg)
		}
	}
	valid := []api.Op{
		addNode("n", api.Res{}), addQueue("r", api.Res{}), submit(task("t", 0, 0)), tick(),
		named(api.DropNode, "m"), named(api.DropQueue, "o"), named(api.Cancel, "a"), named(api.Finish, "a"), named(api.Beat, "k"),
	}
	for _, o := range valid {
		for _, more := range []func(o *api.Op){
			func(o *api.Op) { o.Name += "A" },
			func(o *api.Op) { o.Node.Cap[0]-- },
			func(o *api.Op) { o.Node.Labels = append(o.Node.Labels, api.Label{}) },
			func(o *api.Op) { o.Queue.Quota[1]-- },
			func(o *api.Op) { o.Task.Prio-- },
			func(o *api.Op) { o.Task.Apart = "-" },
		} {
			wrong := o
			more(&wrong)
			mustRefuse(t, g, wrong, api.ErrArg)
		}
	}
	for _, o := range valid {
		if a := loaded(t, rich()).Do(o); a.Err != api.OK {
			t.Errorf("Do(%+v) = %d", o, a.Err)
		}
	}
}
