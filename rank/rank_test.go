package rank_test

import (
	"math"
	"slices"
	"strings"
	"testing"

	"interregnum/api"
	"interregnum/rank"
)

const most = api.MaxRes

// machine makes a machine that is up.
func machine(name string, capacity api.Res, labels ...api.Label) api.Machine {
	return api.Machine{Node: api.Node{Name: name, Cap: capacity, Labels: labels}, Up: true}
}

// down makes a machine that is down.
func down(m api.Machine) api.Machine {
	m.Up = false
	return m
}

// task makes a task of the queue q.
func task(need api.Res) api.Task {
	return api.Task{Name: "u", Queue: "q", Need: need}
}

// on makes the job of another task that is bound to a machine; it waits if the name is empty.
func on(node string, need api.Res) api.Job {
	return api.Job{Task: api.Task{Name: "t", Queue: "q", Need: need}, Seq: 1, Node: node}
}

func mustScore(t *testing.T, m api.Machine, jobs []api.Job, k api.Task, want int) {
	t.Helper()
	if score, ok := rank.Score(m, jobs, k); score != want || !ok {
		t.Errorf("Score(%v, %v, %v) = %d, %t, not %d, true", m, jobs, k, score, ok, want)
	}
}

func mustNotScore(t *testing.T, m api.Machine, jobs []api.Job, k api.Task) {
	t.Helper()
	if score, ok := rank.Score(m, jobs, k); score != 0 || ok {
		t.Errorf("Score(%v, %v, %v) = %d, %t, not 0, false", m, jobs, k, score, ok)
	}
}

// mustRank asks for all machines that can run a task, and for the best one of them.
func mustRank(t *testing.T, machines []api.Machine, jobs []api.Job, k api.Task, want ...string) {
	t.Helper()
	if names := rank.Sorted(machines, jobs, k); !slices.Equal(names, want) {
		t.Errorf("Sorted(%v, %v, %v) = %q, not %q", machines, jobs, k, names, want)
	}
	first, some := "", len(want) > 0
	if some {
		first = want[0]
	}
	if name, ok := rank.Best(machines, jobs, k); name != first || ok != some {
		t.Errorf("Best(%v, %v, %v) = %q, %t, not %q, %t", machines, jobs, k, name, ok, first, some)
	}
}

func TestExamplesOfTheChapter(t *testing.T) {
	a, b, k := machine("a", api.Res{8, 0, 0}), machine("b", api.Res{4, 0, 0}), task(api.Res{3, 0, 0})
	mustScore(t, a, nil, k, 625)
	mustScore(t, b, nil, k, 250)
	mustRank(t, []api.Machine{a, b}, nil, k, "b", "a")
}

func TestScoresOfKnownMachines(t *testing.T) {
	all := api.Res{most, most, most}
	for _, c := range []struct {
		capacity, used, need api.Res
		want                 int
	}{
		{api.Res{8, 0, 0}, api.Res{}, api.Res{}, 1000},
		{api.Res{8, 0, 0}, api.Res{2, 0, 0}, api.Res{3, 0, 0}, 375},
		{api.Res{8, 0, 0}, api.Res{5, 0, 0}, api.Res{3, 0, 0}, 0},
		{api.Res{8, 0, 0}, api.Res{8, 0, 0}, api.Res{}, 0},
		// Each resource that the machine has counts as much as the others.
		{api.Res{4, 10, 100}, api.Res{}, api.Res{}, 3000},
		{api.Res{4, 10, 100}, api.Res{}, api.Res{4, 10, 100}, 0},
		{api.Res{4, 10, 100}, api.Res{}, api.Res{1, 0, 0}, 2750},
		{api.Res{4, 10, 100}, api.Res{1, 0, 50}, api.Res{1, 3, 10}, 500 + 700 + 400},
		{api.Res{0, 10, 0}, api.Res{0, 1, 0}, api.Res{0, 2, 0}, 700},
		{api.Res{0, 10, 5}, api.Res{}, api.Res{0, 0, 5}, 1000},
		// Each resource is rounded down.
		{api.Res{3, 0, 0}, api.Res{}, api.Res{1, 0, 0}, 666},
		{api.Res{3, 3, 3}, api.Res{}, api.Res{1, 1, 1}, 3 * 666},
		{api.Res{7, 7, 7}, api.Res{1, 2, 3}, api.Res{1, 1, 1}, 714 + 571 + 428},
		{api.Res{1001, 0, 0}, api.Res{}, api.Res{1000, 0, 0}, 0},
		{api.Res{1001, 0, 0}, api.Res{}, api.Res{1, 0, 0}, 999},
		// The bounds of the numbers.
		{api.Res{}, api.Res{}, api.Res{}, 0},
		{all, api.Res{}, api.Res{}, 3000},
		{all, api.Res{}, all, 0},
		{all, all, api.Res{}, 0},
		{all, api.Res{}, api.Res{1, most / 2, most - 1}, 999 + 500},
		{all, api.Res{most / 4, 0, most}, api.Res{most / 4, most, 0}, 500},
	} {
		mustScore(t, machine("n", c.capacity), []api.Job{on("n", c.used)}, task(c.need), c.want)
		mustRank(t, []api.Machine{machine("n", c.capacity)}, []api.Job{on("n", c.used)}, task(c.need), "n")
	}
}

func TestScoreCountsWhatIsBoundToTheMachineAlone(t *testing.T) {
	jobs := []api.Job{
		on("n", api.Res{1, 0, 0}),
		on("m", api.Res{0, 8, 0}),
		on("", api.Res{0, 0, 8}),
		on("nn", api.Res{most, most, most}),
		on("n", api.Res{0, 2, 0}),
		on("o", api.Res{-1, 0, 0}),
	}
	mustScore(t, machine("n", api.Res{8, 8, 8}), jobs, task(api.Res{1, 1, 1}), 750+625+875)
	mustScore(t, machine("m", api.Res{8, 10, 8}), jobs, task(api.Res{0, 1, 0}), 1000+100+1000)
	mustScore(t, machine("a", api.Res{8, 8, 8}), jobs, task(api.Res{4, 0, 0}), 2500)
	mustNotScore(t, machine("nn", api.Res{8, 8, 8}), jobs, task(api.Res{}))
	mustNotScore(t, machine("o", api.Res{8, 8, 8}), jobs, task(api.Res{}))
}

func TestScoreOfATaskThatIsBoundThereAlready(t *testing.T) {
	// As in layer 11, it needs its room in addition to what it uses.
	job := api.Job{Task: task(api.Res{3, 0, 0}), Seq: 1, Node: "n", Bound: 1}
	mustScore(t, machine("n", api.Res{8, 0, 0}), []api.Job{job}, job.Task, 250)
	mustNotScore(t, machine("n", api.Res{5, 0, 0}), []api.Job{job}, job.Task)
	mustRank(t, []api.Machine{machine("n", api.Res{8, 0, 0}), machine("m", api.Res{4, 0, 0})}, []api.Job{job}, job.Task, "m", "n")
}

func TestScoreAsksForNothingElse(t *testing.T) {
	m := machine("n", api.Res{8, 0, 0}, api.Label{Key: "a", Value: "1"}, api.Label{Key: "b", Value: "1"})
	m.Until = -5
	jobs := []api.Job{{Task: api.Task{Name: "A b", Prio: 99, Need: api.Res{1, 0, 0}, Apart: "y", Gang: "g"}, Seq: -1, Node: "n", Bound: -1}}
	k := api.Task{Name: "u", Queue: "p", Prio: 9, Need: api.Res{3, 0, 0}, Wants: m.Node.Labels[1:], Apart: "x", Gang: "h", Size: 4}
	mustScore(t, m, jobs, k, 500)
}

// unable are machines that cannot run the task of TestMachinesThatCannot beside the jobs there, each for one reason.
func unable() []api.Machine {
	gpu := api.Label{Key: "gpu", Value: "a"}
	return []api.Machine{
		down(machine("a", api.Res{4, 4, 4}, gpu)),
		machine("b", api.Res{4, 4, 4}),
		machine("c", api.Res{4, 4, 4}, api.Label{Key: "gpu", Value: "b"}),
		machine("d", api.Res{4, 4, 4}, gpu),
		machine("e", api.Res{4, 4, 4}, gpu),
		machine("f", api.Res{1, 4, 4}, gpu),
		machine("g", api.Res{4, 4, 0}, gpu),
		// These are not valid.
		{Up: true},
		machine("", api.Res{4, 4, 4}, gpu),
		machine("H", api.Res{4, 4, 4}, gpu),
		machine(strings.Repeat("h", api.MaxName+1), api.Res{4, 4, 4}, gpu),
		machine("h", api.Res{4, -1, 4}, gpu),
		machine("h", api.Res{4, 4, most + 1}, gpu),
		machine("h", api.Res{math.MaxInt, math.MinInt, 4}, gpu),
		machine("h", api.Res{4, 4, 4}, gpu, gpu),
		// More is bound than there is, or what is bound is not valid.
		machine("i", api.Res{4, 4, 4}, gpu),
		machine("j", api.Res{4, 4, 4}, gpu),
	}
}

func TestMachinesThatCannot(t *testing.T) {
	gpu := api.Label{Key: "gpu", Value: "a"}
	k := api.Task{Name: "u", Queue: "q", Need: api.Res{2, 2, 2}, Wants: []api.Label{gpu}, Apart: "x"}
	jobs := []api.Job{on("d", api.Res{}), on("e", api.Res{3, 0, 0}), on("i", api.Res{0, 5, 0}), on("j", api.Res{0, 0, -1})}
	jobs[0].Task.Apart = "x"
	for _, m := range unable() {
		mustNotScore(t, m, jobs, k)
	}
	mustRank(t, unable(), jobs, k)
	able := []api.Machine{machine("z", api.Res{4, 4, 4}, gpu), machine("y", api.Res{2, 2, 2}, gpu), machine("k", api.Res{5, 5, 5}, gpu)}
	mustRank(t, append(unable(), able...), jobs, k, "y", "z", "k")
	mustRank(t, append(able, unable()...), jobs, k, "y", "z", "k")
}

func TestTasksThatAreNotValid(t *testing.T) {
	m := machine("n", api.Res{9, 9, 9})
	for _, k := range []api.Task{
		{},
		{Name: "u"},
		{Name: "U", Queue: "q"},
		{Name: "u", Queue: strings.Repeat("q", api.MaxName+1)},
		{Name: "u", Queue: "q", Prio: -1},
		{Name: "u", Queue: "q", Prio: api.MaxPrio + 1},
		{Name: "u", Queue: "q", Need: api.Res{-1, 0, 0}},
		{Name: "u", Queue: "q", Need: api.Res{0, math.MinInt, 0}},
		{Name: "u", Queue: "q", Need: api.Res{0, 0, most + 1}},
		{Name: "u", Queue: "q", Wants: []api.Label{{}}},
		{Name: "u", Queue: "q", Apart: "X"},
		{Name: "u", Queue: "q", Gang: "g", Size: 1},
		{Name: "u", Queue: "q", Size: 2},
	} {
		mustNotScore(t, m, nil, k)
		mustRank(t, []api.Machine{m, m}, nil, k)
	}
}

func TestNoMachines(t *testing.T) {
	mustRank(t, nil, nil, task(api.Res{}))
	mustRank(t, []api.Machine{machine("n", api.Res{2, 0, 0})}, nil, task(api.Res{3, 0, 0}))
}

func TestTheLowerScoreIsBetter(t *testing.T) {
	k := task(api.Res{1, 0, 0})
	jobs := []api.Job{on("full", api.Res{98, 0, 0}), on("half", api.Res{4, 0, 0})}
	machines := []api.Machine{
		machine("half", api.Res{10, 0, 0}),      // 500
		machine("full", api.Res{100, 0, 0}),     // 10
		machine("small", api.Res{2, 2, 0}),      // 1500
		machine("exact", api.Res{1, 0, 0}),      // 0
		machine("great", api.Res{2000, 0, 0}),   // 999
		machine("greater", api.Res{2000, 1, 0}), // 1999
		machine("a", api.Res{4, 9, 9}),          // 2750
	}
	// Scores are numbers, not texts, and what is left is compared with the Cap, not as it is.
	mustRank(t, machines, jobs, k, "exact", "full", "half", "great", "small", "greater", "a")
}

func TestOfEqualScoresTheLesserNameIsBetter(t *testing.T) {
	var machines []api.Machine
	for i, name := range []string{"b", "a1", "a-b", "z", "aa", "0", "a", "a10", "9", strings.Repeat("a", api.MaxName)} {
		machines = append(machines, machine(name, api.Res{4 * (i + 1), 0, 0}))
	}
	jobs := []api.Job{}
	for _, m := range machines {
		jobs = append(jobs, on(m.Node.Name, api.Res{m.Node.Cap[0]/2 - 1, 0, 0}))
	}
	want := []string{"0", "9", "a", "a-b", "a1", "a10", "aa", strings.Repeat("a", api.MaxName), "b", "z"}
	for _, m := range machines {
		mustScore(t, m, jobs, task(api.Res{1, 0, 0}), 500)
	}
	mustRank(t, machines, jobs, task(api.Res{1, 0, 0}), want...)
	slices.Reverse(machines)
	mustRank(t, machines, jobs, task(api.Res{1, 0, 0}), want...)
	mustRank(t, machines[:3], jobs, task(api.Res{1, 0, 0}), "9", "a10", strings.Repeat("a", api.MaxName))
}

func TestEqualScoresOfDifferentMachines(t *testing.T) {
	// 666 of one resource, by rounding, and 333 of each of two.
	k := task(api.Res{1, 1, 0})
	machines := []api.Machine{machine("c", api.Res{3, 1, 0}), machine("d", api.Res{1, 3, 0}), machine("b", api.Res{100000, 3, 0}), machine("a", api.Res{1, 3, 7})}
	jobs := []api.Job{on("b", api.Res{66700, 1, 0}), on("a", api.Res{0, 0, 7})}
	for i, want := range []int{666, 666, 332 + 333, 666} {
		mustScore(t, machines[i], jobs, k, want)
	}
	mustRank(t, machines, jobs, k, "b", "a", "c", "d")
	jobs[0].Task.Need[0]--
	mustScore(t, machines[2], jobs, k, 333+333)
	mustRank(t, machines, jobs, k, "a", "b", "c", "d")
}

func TestMachinesWithOneName(t *testing.T) {
	jobs := []api.Job{on("n", api.Res{1, 0, 0})}
	machines := []api.Machine{
		machine("n", api.Res{4, 0, 0}),
		machine("m", api.Res{4, 0, 0}),
		machine("n", api.Res{2, 0, 0}),
		machine("n", api.Res{4, 0, 0}),
		down(machine("n", api.Res{4, 0, 0})),
		machine("a", api.Res{4, 1, 0}),
		machine("m", api.Res{4, 0, 0}),
	}
	mustRank(t, machines, jobs, task(api.Res{1, 0, 0}), "n", "n", "n", "m", "m", "a")
	mustRank(t, machines, jobs, task(api.Res{2, 0, 0}), "n", "n", "m", "m", "a")
	mustRank(t, machines, jobs, task(api.Res{4, 0, 0}), "m", "m", "a")
	mustRank(t, machines, jobs, task(api.Res{0, 1, 0}), "a")
	mustRank(t, machines, jobs, task(api.Res{5, 0, 0}))
	// A name may stand on both sides of another one.
	mustRank(t, machines[:2], nil, task(api.Res{1, 0, 0}), "m", "n")
	around := []api.Machine{machine("n", api.Res{9, 0, 0}), machine("m", api.Res{5, 0, 0}), machine("n", api.Res{3, 0, 0}), machine("n", api.Res{9, 0, 0})}
	mustRank(t, around, nil, task(api.Res{1, 0, 0}), "n", "m", "n", "n")
}

func TestMoreMachinesThanAStateHas(t *testing.T) {
	var machines []api.Machine
	var want []string
	for size := range 400 {
		name := "n" + strings.Repeat("x", size%15)
		machines = append(machines, machine(name, api.Res{(size + 1) * 1000, 0, 0}))
		want = append(want, name)
	}
	slices.Reverse(machines)
	used := api.Res{1000, 0, 0}
	if names := rank.Sorted(machines[200:], nil, task(used)); len(names) != 200 || names[0] != "n" || names[1] != "nx" {
		t.Errorf("Sorted of 200 machines: %q", names)
	}
	if names := rank.Sorted(machines, nil, task(used)); len(names) != 400 || !slices.Equal(names[:20], want[:20]) {
		t.Errorf("Sorted of 400 machines: %q", names)
	}
}
