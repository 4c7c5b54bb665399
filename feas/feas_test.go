package feas_test

import (
	"math"
	"slices"
	"strings"
	"testing"

	"interregnum/api"
	"interregnum/feas"
)

const most = api.MaxRes

// machine makes a machine that is up.
func machine(name string, capacity api.Res, labels ...api.Label) api.Machine {
	return api.Machine{Node: api.Node{Name: name, Cap: capacity, Labels: labels}, Up: true}
}

// down makes a machine that is down.
func down(m api.Machine) api.Machine {
	m.Up = false
	return m
}

// task makes a task of the queue q.
func task(name string, need api.Res) api.Task {
	return api.Task{Name: name, Queue: "q", Need: need}
}

// apart makes a task that needs nothing, but to be apart from others.
func apart(name, from string) api.Task {
	return api.Task{Name: name, Queue: "q", Apart: from}
}

// wanting makes a task that needs nothing, but wants labels.
func wanting(labels ...api.Label) api.Task {
	return api.Task{Name: "u", Queue: "q", Wants: labels}
}

// on makes the job of a task that is bound to a machine; it waits if the name is empty.
func on(node string, t api.Task) api.Job {
	return api.Job{Task: t, Seq: 1, Node: node}
}

// needing makes jobs with these needs that are bound to the machine n.
func needing(needs ...api.Res) []api.Job {
	var jobs []api.Job
	for _, need := range needs {
		jobs = append(jobs, on("n", task("t", need)))
	}
	return jobs
}

func mustLeave(t *testing.T, m api.Machine, jobs []api.Job, want api.Res, wantErr api.Errno) {
	t.Helper()
	if free, err := feas.Free(m, jobs); free != want || err != wantErr {
		t.Errorf("Free(%v, %v) = %v, %d, not %v, %d", m, jobs, free, err, want, wantErr)
	}
}

func mustSay(t *testing.T, m api.Machine, jobs []api.Job, k api.Task, want int) {
	t.Helper()
	if why := feas.Why(m, jobs, k); why != want {
		t.Errorf("Why(%v, %v, %v) = %d, not %d", m, jobs, k, why, want)
	}
}

func mustList(t *testing.T, machines []api.Machine, jobs []api.Job, k api.Task, want ...string) {
	t.Helper()
	if names := feas.All(machines, jobs, k); !slices.Equal(names, want) {
		t.Errorf("All(%v, %v, %v) = %q, not %q", machines, jobs, k, names, want)
	}
}

func TestReasonsAreNumbered(t *testing.T) {
	got := [6]int{feas.Can, feas.Down, feas.Wants, feas.Apart, feas.Room, feas.Wrong}
	if got != [6]int{0, 1, 2, 3, 4, 5} {
		t.Errorf("the reasons are %v", got)
	}
}

func TestExamplesOfTheChapter(t *testing.T) {
	m := machine("n", api.Res{4, 4, 4})
	jobs := []api.Job{on("n", task("t", api.Res{3, 0, 0}))}
	mustLeave(t, m, jobs, api.Res{1, 4, 4}, api.OK)
	mustSay(t, m, jobs, task("u", api.Res{2, 0, 0}), feas.Room)
	mustSay(t, m, jobs, task("u", api.Res{1, 4, 4}), feas.Can)
	bound := []api.Job{on("n", apart("t", "x"))}
	mustSay(t, m, bound, apart("u", "x"), feas.Apart)
	mustSay(t, m, bound, apart("t", "x"), feas.Can)
}

func TestFreeOfKnownMachines(t *testing.T) {
	all := api.Res{most, most, most}
	for _, c := range []struct {
		capacity api.Res
		needs    []api.Res
		want     api.Res
		err      api.Errno
	}{
		{api.Res{}, nil, api.Res{}, api.OK},
		{api.Res{4, 5, 6}, nil, api.Res{4, 5, 6}, api.OK},
		{api.Res{4, 5, 6}, []api.Res{{1, 2, 3}}, api.Res{3, 3, 3}, api.OK},
		{api.Res{4, 5, 6}, []api.Res{{1, 2, 3}, {3, 0, 1}, {0, 3, 0}}, api.Res{0, 0, 2}, api.OK},
		{api.Res{4, 5, 6}, []api.Res{{4, 5, 6}, {}}, api.Res{}, api.OK},
		{all, []api.Res{all}, api.Res{}, api.OK},
		{all, []api.Res{{most - 1, 0, 1}, {1, 7, 0}}, api.Res{0, most - 7, most - 1}, api.OK},
		// More is bound than there is.
		{api.Res{4, 5, 6}, []api.Res{{5, 0, 0}}, api.Res{}, api.ErrOver},
		{api.Res{4, 5, 6}, []api.Res{{2, 3, 0}, {2, 3, 0}}, api.Res{}, api.ErrOver},
		{api.Res{4, 5, 6}, []api.Res{{0, 0, 7}}, api.Res{}, api.ErrOver},
		{api.Res{}, []api.Res{all}, api.Res{}, api.ErrOver},
		{all, []api.Res{all, {0, 1, 0}}, api.Res{}, api.ErrOver},
		// A need is not valid.
		{api.Res{4, 5, 6}, []api.Res{{-1, 0, 0}}, api.Res{}, api.ErrArg},
		{api.Res{4, 5, 6}, []api.Res{{1, 0, 0}, {0, 0, -1}}, api.Res{}, api.ErrArg},
		{api.Res{4, 5, 6}, []api.Res{{0, most + 1, 0}, {1, 1, 1}}, api.Res{}, api.ErrArg},
		{all, []api.Res{{math.MaxInt, math.MinInt, 0}}, api.Res{}, api.ErrArg},
		// The capacity is not valid.
		{api.Res{-1, 5, 6}, nil, api.Res{}, api.ErrArg},
		{api.Res{4, 5, most + 1}, []api.Res{{1, 1, 1}}, api.Res{}, api.ErrArg},
		{api.Res{4, math.MinInt, 6}, []api.Res{{9, 9, 9}}, api.Res{}, api.ErrArg},
		// The needs are added up first, and the first error is the one that is met first.
		{api.Res{-1, 5, 6}, []api.Res{all, {1, 0, 0}}, api.Res{}, api.ErrOver},
		{api.Res{4, 5, 6}, []api.Res{all, {1, 0, 0}, {-1, 0, 0}}, api.Res{}, api.ErrOver},
		{api.Res{4, 5, 6}, []api.Res{all, {-1, 0, 0}, {1, 0, 0}}, api.Res{}, api.ErrArg},
		{api.Res{4, 5, 6}, []api.Res{{5, 0, 0}, {0, -1, 0}}, api.Res{}, api.ErrArg},
	} {
		mustLeave(t, machine("n", c.capacity), needing(c.needs...), c.want, c.err)
	}
}

func TestFreeCountsWhatIsBoundToTheMachineAlone(t *testing.T) {
	jobs := []api.Job{
		on("n", task("a", api.Res{1, 0, 0})),
		on("m", task("b", api.Res{0, most, 0})),
		on("", task("n", api.Res{0, 0, most})),
		on("N", task("c", api.Res{-1, 0, 0})),
		on("nn", task("n", api.Res{most, most, most})),
		on("n ", task("d", api.Res{2, 2, 2})),
		on("n", task("a", api.Res{0, 2, 0})),
		on("m", task("e", api.Res{0, 1, 0})),
	}
	jobs[2].Task.Queue, jobs[2].Task.Apart, jobs[2].Task.Gang = "n", "n", "n"
	mustLeave(t, machine("n", api.Res{4, 4, 4}), jobs, api.Res{3, 2, 4}, api.OK)
	mustLeave(t, machine("m", api.Res{4, 4, 4}), jobs, api.Res{}, api.ErrOver)
	mustLeave(t, machine("N", api.Res{4, 4, 4}), jobs, api.Res{}, api.ErrArg)
	mustLeave(t, machine("n ", api.Res{4, 4, 4}), jobs, api.Res{2, 2, 2}, api.OK)
	mustLeave(t, machine("a", api.Res{4, 4, 4}), jobs, api.Res{4, 4, 4}, api.OK)
}

func TestFreeOfAMachineWithoutAName(t *testing.T) {
	// The words hold a Node against a name, whatever the name is.
	jobs := []api.Job{on("", task("a", api.Res{1, 0, 0})), on("n", task("b", api.Res{0, 1, 0}))}
	mustLeave(t, machine("", api.Res{4, 4, 4}), jobs, api.Res{3, 4, 4}, api.OK)
	mustSay(t, machine("", api.Res{4, 4, 4}), jobs, task("u", api.Res{}), feas.Wrong)
}

func TestFreeAsksForNothingElse(t *testing.T) {
	m := api.Machine{Node: api.Node{Name: "A b", Cap: api.Res{4, 4, 4}, Labels: []api.Label{{}, {}}}, Until: -3}
	jobs := []api.Job{
		{Task: api.Task{Need: api.Res{1, 1, 1}, Prio: -1, Gang: "g", Size: 99, Wants: []api.Label{{}}}, Seq: -1, Node: "A b", Bound: -7},
		{Task: api.Task{Name: "?", Need: api.Res{0, 1, 2}, Apart: "\n"}, Node: "A b"},
	}
	mustLeave(t, m, jobs, api.Res{3, 2, 1}, api.OK)
}

func TestFreeWithMoreJobsThanAStateHas(t *testing.T) {
	var jobs []api.Job
	for range 1000 {
		jobs = append(jobs, on("n", task("t", api.Res{1, 2, 0})), on("m", task("t", api.Res{0, 0, 1})))
	}
	mustLeave(t, machine("n", api.Res{1000, 2001, 5}), jobs, api.Res{0, 1, 5}, api.OK)
	mustLeave(t, machine("m", api.Res{1000, 2001, 999}), jobs, api.Res{}, api.ErrOver)
}

// wrongMachines are not valid, each for one reason.
func wrongMachines() []api.Machine {
	v := func(key string) api.Label { return api.Label{Key: key, Value: "v"} }
	return []api.Machine{
		{Up: true},
		machine("", api.Res{9, 9, 9}),
		machine("N", api.Res{9, 9, 9}),
		machine("-n", api.Res{9, 9, 9}),
		machine(strings.Repeat("n", api.MaxName+1), api.Res{9, 9, 9}),
		machine("n", api.Res{-1, 9, 9}),
		machine("n", api.Res{9, 9, most + 1}),
		machine("n", api.Res{9, 9, 9}, v("")),
		machine("n", api.Res{9, 9, 9}, v("K")),
		machine("n", api.Res{9, 9, 9}, api.Label{Key: "k"}),
		machine("n", api.Res{9, 9, 9}, v("b"), v("a")),
		machine("n", api.Res{9, 9, 9}, v("a"), v("a")),
		machine("n", api.Res{9, 9, 9}, v("a"), v("b"), v("c"), v("d"), v("e")),
	}
}

// wrongTasks are not valid, each for one reason.
func wrongTasks() []api.Task {
	return []api.Task{
		{},
		{Name: "u"},
		{Queue: "q"},
		{Name: "U", Queue: "q"},
		{Name: "u", Queue: strings.Repeat("q", api.MaxName+1)},
		{Name: "u", Queue: "q", Prio: -1},
		{Name: "u", Queue: "q", Prio: api.MaxPrio + 1},
		{Name: "u", Queue: "q", Need: api.Res{-1, 0, 0}},
		{Name: "u", Queue: "q", Need: api.Res{0, 0, most + 1}},
		{Name: "u", Queue: "q", Need: api.Res{0, math.MinInt, 0}},
		{Name: "u", Queue: "q", Wants: []api.Label{{Key: "k", Value: ""}}},
		{Name: "u", Queue: "q", Wants: []api.Label{{Key: "b", Value: "v"}, {Key: "a", Value: "v"}}},
		{Name: "u", Queue: "q", Apart: "X"},
		{Name: "u", Queue: "q", Gang: "g"},
		{Name: "u", Queue: "q", Gang: "g", Size: 1},
		{Name: "u", Queue: "q", Gang: "g", Size: api.MaxGang + 1},
		{Name: "u", Queue: "q", Size: 2},
	}
}

func TestWrongMachinesAndTasks(t *testing.T) {
	right := machine("n", api.Res{9, 9, 9})
	for _, m := range wrongMachines() {
		mustSay(t, m, nil, task("u", api.Res{}), feas.Wrong)
		mustSay(t, down(m), nil, wanting(api.Label{Key: "k", Value: "w"}), feas.Wrong)
		mustList(t, []api.Machine{m, right, m}, nil, task("u", api.Res{}), "n")
	}
	for _, k := range wrongTasks() {
		mustSay(t, right, nil, k, feas.Wrong)
		mustSay(t, down(right), nil, k, feas.Wrong)
		mustList(t, []api.Machine{right}, nil, k)
	}
}

func TestWrongJobs(t *testing.T) {
	m := machine("n", api.Res{9, 9, 9})
	for _, needs := range [][]api.Res{{{-1, 0, 0}}, {{1, 0, 0}, {0, 0, most + 1}}, {{10, 0, 0}}, {{5, 5, 5}, {0, 5, 0}}, {{most, 0, 0}, {1, 0, 0}}} {
		jobs := needing(needs...)
		mustSay(t, m, jobs, task("u", api.Res{}), feas.Wrong)
		mustSay(t, down(m), jobs, wanting(api.Label{Key: "k", Value: "w"}), feas.Wrong)
		mustSay(t, machine("o", api.Res{9, 9, 9}), jobs, task("u", api.Res{}), feas.Can)
		mustList(t, []api.Machine{m, machine("o", api.Res{})}, jobs, task("u", api.Res{}), "o")
	}
}

func TestWhatElseJobsSayDoesNotMatter(t *testing.T) {
	jobs := []api.Job{
		{Task: api.Task{Name: "A b", Queue: "?", Prio: 99, Need: api.Res{1, 1, 1}, Wants: []api.Label{{}}, Gang: "g"}, Seq: -1, Node: "n", Bound: -1},
		{Task: api.Task{Name: "u", Queue: "p", Prio: -1}, Node: "n"},
		{Task: api.Task{Name: "w", Need: api.Res{-1, -1, -1}}},
	}
	m := machine("n", api.Res{2, 2, 2})
	m.Until = -5
	mustSay(t, m, jobs, task("u", api.Res{1, 1, 1}), feas.Can)
	mustSay(t, m, jobs, task("u", api.Res{1, 2, 1}), feas.Room)
}

func TestMachinesThatAreDown(t *testing.T) {
	m := machine("n", api.Res{9, 9, 9}, api.Label{Key: "k", Value: "v"})
	m.Until = api.MaxClock
	mustSay(t, m, nil, wanting(m.Node.Labels...), feas.Can)
	mustSay(t, down(m), nil, wanting(m.Node.Labels...), feas.Down)
	mustList(t, []api.Machine{down(m), m, down(m)}, nil, task("u", api.Res{}), "n")
}

func TestWants(t *testing.T) {
	a1, a2 := api.Label{Key: "a", Value: "1"}, api.Label{Key: "a", Value: "2"}
	b1, c1, d1 := api.Label{Key: "b", Value: "1"}, api.Label{Key: "c", Value: "1"}, api.Label{Key: "d", Value: "1"}
	for _, c := range []struct {
		labels, wants []api.Label
		want          int
	}{
		{nil, nil, feas.Can},
		{[]api.Label{a1}, nil, feas.Can},
		{[]api.Label{a1}, []api.Label{a1}, feas.Can},
		{[]api.Label{a1, b1, c1, d1}, []api.Label{b1, d1}, feas.Can},
		{[]api.Label{a1, b1, c1, d1}, []api.Label{a1, b1, c1, d1}, feas.Can},
		{nil, []api.Label{a1}, feas.Wants},
		{[]api.Label{a2}, []api.Label{a1}, feas.Wants},
		{[]api.Label{a1, b1}, []api.Label{a2, b1}, feas.Wants},
		{[]api.Label{a1, b1}, []api.Label{a1, b1, c1}, feas.Wants},
		{[]api.Label{b1}, []api.Label{a1}, feas.Wants},
		{[]api.Label{{Key: "1", Value: "a"}}, []api.Label{a1}, feas.Wants},
	} {
		mustSay(t, machine("n", api.Res{1, 1, 1}, c.labels...), nil, wanting(c.wants...), c.want)
	}
}

func TestApart(t *testing.T) {
	m := machine("n", api.Res{9, 9, 9})
	for _, c := range []struct {
		jobs []api.Job
		k    api.Task
		want int
	}{
		{nil, apart("u", "x"), feas.Can},
		{[]api.Job{on("n", apart("t", "x"))}, apart("u", "x"), feas.Apart},
		{[]api.Job{on("n", apart("t", "x"))}, apart("u", "y"), feas.Can},
		{[]api.Job{on("n", apart("t", "x"))}, apart("u", "xx"), feas.Can},
		{[]api.Job{on("n", apart("t", "x"))}, apart("u", ""), feas.Can},
		{[]api.Job{on("n", apart("t", ""))}, apart("u", "x"), feas.Can},
		{[]api.Job{on("n", apart("t", ""))}, apart("u", ""), feas.Can},
		{[]api.Job{on("m", apart("t", "x"))}, apart("u", "x"), feas.Can},
		{[]api.Job{on("", apart("t", "x"))}, apart("u", "x"), feas.Can},
		// It is the name that says which job is the task itself, not the place of the job.
		{[]api.Job{on("n", apart("u", "x"))}, apart("u", "x"), feas.Can},
		{[]api.Job{on("n", apart("u", "x")), on("n", apart("t", "x"))}, apart("u", "x"), feas.Apart},
		{[]api.Job{on("n", apart("t", "x")), on("n", apart("u", "x"))}, apart("u", "x"), feas.Apart},
		{[]api.Job{on("n", apart("t", "y")), on("m", apart("s", "x")), on("n", apart("r", "x"))}, apart("u", "x"), feas.Apart},
		// What is apart is not called like tasks, queues, gangs or machines.
		{[]api.Job{on("n", apart("x", ""))}, apart("u", "x"), feas.Can},
		{[]api.Job{on("n", api.Task{Name: "t", Queue: "x", Gang: "x", Size: 2})}, apart("u", "x"), feas.Can},
		{[]api.Job{on("n", apart("t", "u"))}, apart("u", "n"), feas.Can},
		{[]api.Job{on("n", api.Task{Name: "t", Queue: "p", Prio: 3, Apart: "x", Gang: "g", Size: 2})}, apart("u", "x"), feas.Apart},
	} {
		mustSay(t, m, c.jobs, c.k, c.want)
	}
}

func TestRoom(t *testing.T) {
	m := machine("n", api.Res{4, 5, 6})
	jobs := append(needing(api.Res{1, 0, 0}, api.Res{0, 5, 2}), on("m", task("w", api.Res{9, 9, 9})), on("", task("v", api.Res{9, 9, 9})))
	for _, c := range []struct {
		need api.Res
		want int
	}{
		{api.Res{}, feas.Can},
		{api.Res{3, 0, 4}, feas.Can},
		{api.Res{3, 0, 0}, feas.Can},
		{api.Res{4, 0, 0}, feas.Room},
		{api.Res{0, 1, 0}, feas.Room},
		{api.Res{0, 0, 5}, feas.Room},
		{api.Res{most, most, most}, feas.Room},
	} {
		mustSay(t, m, jobs, task("u", c.need), c.want)
	}
	// What the task itself uses there is used.
	mustSay(t, m, []api.Job{on("n", task("u", api.Res{2, 2, 2}))}, task("u", api.Res{2, 2, 2}), feas.Can)
	mustSay(t, m, []api.Job{on("n", task("u", api.Res{3, 2, 2}))}, task("u", api.Res{3, 2, 2}), feas.Room)
	mustSay(t, machine("n", api.Res{most, most, most}), nil, task("u", api.Res{most, most, most}), feas.Can)
	mustSay(t, machine("n", api.Res{}), nil, task("u", api.Res{}), feas.Can)
}

func TestTheFirstReasonIsReturned(t *testing.T) {
	for all := range 1 << 5 {
		wrong, isDown, wants, together, room := all&1 != 0, all&2 != 0, all&4 != 0, all&8 != 0, all&16 != 0
		m, k, want := machine("n", api.Res{4, 4, 4}), task("u", api.Res{1, 1, 1}), feas.Can
		k.Apart = "x"
		jobs := []api.Job{on("n", task("t", api.Res{2, 2, 2}))}
		if room {
			k.Need, want = api.Res{3, 0, 0}, feas.Room
		}
		if together {
			jobs[0].Task.Apart, want = "x", feas.Apart
		}
		if wants {
			k.Wants, want = []api.Label{{Key: "k", Value: "v"}}, feas.Wants
		}
		if isDown {
			m.Up, want = false, feas.Down
		}
		if !wrong {
			mustSay(t, m, jobs, k, want)
			continue
		}
		wrongNode, wrongTask := m, k
		wrongNode.Node.Labels, wrongTask.Prio = []api.Label{{}}, -1
		mustSay(t, wrongNode, jobs, k, feas.Wrong)
		mustSay(t, m, jobs, wrongTask, feas.Wrong)
		mustSay(t, m, append(jobs, on("n", task("s", api.Res{3, 0, 0}))), k, feas.Wrong)
		mustSay(t, m, append(jobs, on("n", task("s", api.Res{-1, 0, 0}))), k, feas.Wrong)
	}
}

func TestAllIsInAscendingOrder(t *testing.T) {
	k := task("u", api.Res{1, 0, 0})
	var machines []api.Machine
	for _, name := range []string{"b", "a1", "a-b", "z", "aa", "0", "a", "a10", "9", strings.Repeat("a", api.MaxName)} {
		machines = append(machines, machine(name, api.Res{1, 0, 0}))
	}
	want := []string{"0", "9", "a", "a-b", "a1", "a10", "aa", strings.Repeat("a", api.MaxName), "b", "z"}
	mustList(t, machines, nil, k, want...)
	slices.Reverse(machines)
	mustList(t, machines, nil, k, want...)
	mustList(t, machines[:3], nil, k, "9", "a10", strings.Repeat("a", api.MaxName))
}

func TestAllHasThoseThatCanAlone(t *testing.T) {
	gpu := api.Label{Key: "gpu", Value: "a"}
	machines := []api.Machine{
		machine("w", api.Res{4, 4, 4}, gpu),
		down(machine("v", api.Res{4, 4, 4}, gpu)),
		machine("t", api.Res{4, 4, 4}),
		machine("s", api.Res{4, 4, 4}, gpu),
		machine("r", api.Res{1, 4, 4}, gpu),
		machine("P", api.Res{4, 4, 4}, gpu),
		machine("m", api.Res{4, 4, 4}, gpu),
		machine("n", api.Res{2, 1, 0}, gpu),
	}
	jobs := []api.Job{on("s", apart("a", "x")), on("m", task("b", api.Res{2, 2, 2})), on("", task("c", api.Res{9, 9, 9}))}
	k := api.Task{Name: "u", Queue: "q", Need: api.Res{2, 1, 0}, Wants: []api.Label{gpu}, Apart: "x"}
	for i, want := range []int{feas.Can, feas.Down, feas.Wants, feas.Apart, feas.Room, feas.Wrong, feas.Can, feas.Can} {
		mustSay(t, machines[i], jobs, k, want)
	}
	mustList(t, machines, jobs, k, "m", "n", "w")
	mustList(t, machines[1:6], jobs, k)
}

func TestAllOfMachinesWithOneName(t *testing.T) {
	jobs := needing(api.Res{1, 1, 1})
	machines := []api.Machine{machine("n", api.Res{4, 4, 4}), machine("m", api.Res{4, 4, 4}), machine("n", api.Res{2, 2, 2}), machine("n", api.Res{4, 4, 4})}
	mustList(t, machines, jobs, task("u", api.Res{1, 0, 0}), "m", "n", "n", "n")
	mustList(t, machines, jobs, task("u", api.Res{2, 0, 0}), "m", "n", "n")
	mustList(t, machines, jobs, task("u", api.Res{4, 0, 0}), "m")
	mustList(t, machines, jobs, task("u", api.Res{5, 0, 0}))
}
