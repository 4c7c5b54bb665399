package victim_test

import (
	"math"
	"slices"
	"strconv"
	"strings"
	"testing"

	"interregnum/api"
	"interregnum/victim"
)

const most = api.MaxRes

// machine makes a machine that is up.
func machine(name string, capacity api.Res, labels ...api.Label) api.Machine {
	return api.Machine{Node: api.Node{Name: name, Cap: capacity, Labels: labels}, Up: true}
}

// down makes a machine that is down.
func down(m api.Machine) api.Machine {
	m.Up = false
	return m
}

// task makes a task of the queue q.
func task(prio int, need api.Res) api.Task {
	return api.Task{Name: "u", Queue: "q", Prio: prio, Need: need}
}

// on makes the job of another task that is bound to a machine; it waits if the name of the machine is empty.
func on(node, name string, prio, seq int, need api.Res) api.Job {
	return api.Job{Task: api.Task{Name: name, Queue: "q", Prio: prio, Need: need}, Seq: seq, Node: node, Bound: 1}
}

// ones makes jobs bound to the machine n that need 1, 0, 0 each.
func ones(l ...rung) []api.Job {
	var jobs []api.Job
	for _, r := range l {
		jobs = append(jobs, on("n", r.name, r.prio, r.seq, api.Res{1, 0, 0}))
	}
	return jobs
}

// rung is what the order of the weaker jobs asks of a job.
type rung struct {
	name      string
	prio, seq int
}

func mustPlan(t *testing.T, m api.Machine, jobs []api.Job, k api.Task, want ...string) {
	t.Helper()
	if names, ok := victim.Plan(m, jobs, k); !slices.Equal(names, want) || !ok {
		t.Errorf("Plan(%v, %v, %v) = %q, %t, not %q, true", m, jobs, k, names, ok, want)
	}
}

func mustNotPlan(t *testing.T, m api.Machine, jobs []api.Job, k api.Task) {
	t.Helper()
	if names, ok := victim.Plan(m, jobs, k); len(names) > 0 || ok {
		t.Errorf("Plan(%v, %v, %v) = %q, %t, not none, false", m, jobs, k, names, ok)
	}
}

func mustChoose(t *testing.T, machines []api.Machine, jobs []api.Job, k api.Task, node string, want ...string) {
	t.Helper()
	if name, names, ok := victim.Choose(machines, jobs, k); name != node || !slices.Equal(names, want) || !ok {
		t.Errorf("Choose(%v, %v, %v) = %q, %q, %t, not %q, %q, true", machines, jobs, k, name, names, ok, node, want)
	}
}

func mustNotChoose(t *testing.T, machines []api.Machine, jobs []api.Job, k api.Task) {
	t.Helper()
	if name, names, ok := victim.Choose(machines, jobs, k); name != "" || len(names) > 0 || ok {
		t.Errorf("Choose(%v, %v, %v) = %q, %q, %t, not none, false", machines, jobs, k, name, names, ok)
	}
}

func TestExamplesOfTheChapter(t *testing.T) {
	two := api.Res{2, 0, 0}
	m := machine("n", api.Res{4, 0, 0})
	jobs := []api.Job{on("n", "a", 1, 1, two), on("n", "b", 1, 2, two)}
	mustPlan(t, m, jobs, task(3, two), "b")
	mustNotPlan(t, m, jobs, task(1, two))

	full := api.Res{4, 0, 0}
	machines := []api.Machine{machine("x", full), machine("y", full), machine("z", full)}
	jobs = []api.Job{on("x", "a", 1, 1, two), on("x", "b", 1, 2, two), on("y", "c", 2, 3, full), on("z", "d", 1, 4, full)}
	mustChoose(t, machines, jobs, task(3, full), "z", "d")
}

func TestExampleOfTheWhole(t *testing.T) {
	m, jobs := machine("n", api.Res{4, 0, 0}), []api.Job{on("n", "a", 1, 1, api.Res{3, 0, 0})}
	mustPlan(t, m, jobs, task(5, api.Res{2, 0, 0}), "a")
	mustChoose(t, []api.Machine{m}, jobs, task(5, api.Res{2, 0, 0}), "n", "a")
}

func TestNoJobsGoWhereTheTaskCanRun(t *testing.T) {
	jobs := []api.Job{on("n", "a", 0, 1, api.Res{3, 0, 0})}
	for prio := range api.MaxPrio + 1 {
		mustPlan(t, machine("n", api.Res{4, 0, 0}), jobs, task(prio, api.Res{1, 0, 0}))
		mustPlan(t, machine("n", api.Res{3, 0, 0}), jobs, task(prio, api.Res{}))
		mustPlan(t, machine("m", api.Res{4, 0, 0}), jobs, task(prio, api.Res{4, 0, 0}))
		mustPlan(t, machine("n", api.Res{4, 0, 0}), nil, task(prio, api.Res{4, 0, 0}))
	}
}

func TestTheLowestPrioGoesFirst(t *testing.T) {
	m := machine("n", api.Res{4, 0, 0})
	jobs := ones(rung{"a", 3, 9}, rung{"b", 1, 1}, rung{"c", 4, 12}, rung{"d", 2, 20})
	mustPlan(t, m, jobs, task(9, api.Res{1, 0, 0}), "b")
	mustPlan(t, m, jobs, task(9, api.Res{2, 0, 0}), "b", "d")
	mustPlan(t, m, jobs, task(9, api.Res{3, 0, 0}), "b", "d", "a")
	mustPlan(t, m, jobs, task(9, api.Res{4, 0, 0}), "b", "d", "a", "c")
	mustNotPlan(t, m, jobs, task(9, api.Res{5, 0, 0}))
}

func TestOfOnePrioTheGreatestSeqGoesFirst(t *testing.T) {
	m := machine("n", api.Res{5, 0, 0})
	// Numbers are compared as numbers, not as texts.
	jobs := ones(rung{"a", 2, 9}, rung{"b", 2, 100}, rung{"c", 2, 11}, rung{"d", 1, 1}, rung{"e", 2, 1})
	mustPlan(t, m, jobs, task(3, api.Res{1, 0, 0}), "d")
	mustPlan(t, m, jobs, task(3, api.Res{3, 0, 0}), "d", "b", "c")
	mustPlan(t, m, jobs, task(3, api.Res{5, 0, 0}), "d", "b", "c", "a", "e")
}

func TestOfOnePrioAndSeqTheFirstGoesFirst(t *testing.T) {
	m := machine("n", api.Res{5, 0, 0})
	jobs := ones(rung{"z", 1, 7}, rung{"b", 1, 7}, rung{"y", 0, 7}, rung{"a", 1, 7}, rung{"c", 1, 8})
	mustPlan(t, m, jobs, task(2, api.Res{5, 0, 0}), "y", "c", "z", "b", "a")
	mustPlan(t, m, jobs, task(2, api.Res{3, 0, 0}), "y", "c", "z")
	slices.Reverse(jobs)
	mustPlan(t, m, jobs, task(2, api.Res{5, 0, 0}), "y", "c", "a", "b", "z")
	mustPlan(t, m, jobs, task(2, api.Res{3, 0, 0}), "y", "c", "a")
}

func TestPositionsOfManyJobs(t *testing.T) {
	var jobs []api.Job
	for i := range 600 {
		jobs = append(jobs, ones(rung{strconv.Itoa(i), i % 3, i % 2})...)
	}
	var want []string
	for _, first := range []int{3, 0, 1, 4, 5, 2} { // Prio 0, 1, 2, and of each of them Seq 1, 0
		for i := first; i < len(jobs); i += 6 {
			want = append(want, strconv.Itoa(i))
		}
	}
	m := machine("n", api.Res{600, 0, 0})
	for _, count := range []int{600, 599, 401, 400, 399, 101, 100, 99, 13, 2, 1} {
		mustPlan(t, m, jobs, task(9, api.Res{count, 0, 0}), want[:count]...)
	}
	mustPlan(t, m, jobs, task(2, api.Res{400, 0, 0}), want[:400]...)
	mustNotPlan(t, m, jobs, task(2, api.Res{401, 0, 0}))
}

func TestPriosAndSeqsAtTheEndsOfTheirNumbers(t *testing.T) {
	m := machine("n", api.Res{6, 0, 0})
	jobs := ones(
		rung{"a", 0, math.MaxInt}, rung{"b", math.MinInt, math.MinInt}, rung{"c", 0, math.MinInt},
		rung{"d", 8, 0}, rung{"e", math.MinInt, math.MaxInt}, rung{"f", 0, -1},
	)
	mustPlan(t, m, jobs, task(9, api.Res{6, 0, 0}), "e", "b", "a", "f", "c", "d")
	mustPlan(t, m, jobs, task(0, api.Res{2, 0, 0}), "e", "b")
	mustNotPlan(t, m, jobs, task(0, api.Res{3, 0, 0}))
	jobs[3].Task.Prio = math.MaxInt
	mustPlan(t, m, jobs, task(9, api.Res{5, 0, 0}), "e", "b", "a", "f", "c")
	mustNotPlan(t, m, jobs, task(9, api.Res{6, 0, 0}))
}

func TestOnlyALowerPrioIsWeaker(t *testing.T) {
	m := machine("n", api.Res{10, 0, 0})
	var jobs []api.Job
	for prio := range api.MaxPrio + 1 {
		jobs = append(jobs, ones(rung{strconv.Itoa(prio), prio, prio + 1})...)
	}
	want := []string{"0", "1", "2", "3", "4", "5", "6", "7", "8"}
	for prio := range api.MaxPrio + 1 {
		mustPlan(t, m, jobs, task(prio, api.Res{prio, 0, 0}), want[:prio]...)
		mustNotPlan(t, m, jobs, task(prio, api.Res{prio + 1, 0, 0}))
	}
}

func TestOnlyWhatIsBoundToTheMachineGoes(t *testing.T) {
	one := api.Res{1, 0, 0}
	jobs := []api.Job{
		on("", "a", 0, 9, one), on("m", "b", 0, 8, one), on("n", "c", 2, 1, one), on("nn", "d", 0, 7, one),
		on("n", "e", 1, 2, one), on("", "f", 0, 6, api.Res{-1, 0, 0}), on("m", "g", 0, 5, api.Res{most + 1, 0, 0}),
	}
	m := machine("n", api.Res{2, 0, 0})
	mustPlan(t, m, jobs, task(5, one), "e")
	mustPlan(t, m, jobs, task(5, api.Res{2, 0, 0}), "e", "c")
	mustNotPlan(t, m, jobs, task(5, api.Res{3, 0, 0}))
}

func TestAsFewGoAsAreNeeded(t *testing.T) {
	m := machine("n", api.Res{8, 8, 8})
	jobs := []api.Job{
		on("n", "a", 0, 5, api.Res{0, 0, 0}), on("n", "b", 0, 4, api.Res{1, 0, 0}), on("n", "c", 0, 3, api.Res{0, 2, 0}),
		on("n", "d", 0, 2, api.Res{3, 3, 3}), on("n", "e", 0, 1, api.Res{4, 3, 0}),
	}
	for _, c := range []struct {
		need  api.Res
		count int
	}{
		// 0, 0, 5 is free with all of them.
		{api.Res{0, 0, 5}, 0},
		{api.Res{1, 0, 0}, 2},
		{api.Res{0, 1, 0}, 3},
		{api.Res{0, 2, 0}, 3},
		{api.Res{1, 2, 5}, 3},
		// Even those whose need does not help go before others.
		{api.Res{0, 0, 6}, 4},
		{api.Res{0, 0, 8}, 4},
		{api.Res{2, 0, 0}, 4},
		{api.Res{4, 5, 8}, 4},
		{api.Res{5, 5, 8}, 5},
		{api.Res{4, 6, 8}, 5},
		{api.Res{8, 8, 8}, 5},
	} {
		mustPlan(t, m, jobs, task(1, c.need), []string{"a", "b", "c", "d", "e"}[:c.count]...)
	}
	for _, need := range []api.Res{{9, 0, 0}, {0, 9, 0}, {0, 0, 9}, {most, most, most}} {
		mustNotPlan(t, m, jobs, task(1, need))
	}
}

func TestTheOrderIsNotThatOfTheNeeds(t *testing.T) {
	m := machine("n", api.Res{9, 0, 0})
	jobs := []api.Job{on("n", "a", 2, 3, api.Res{6, 0, 0}), on("n", "b", 1, 1, api.Res{1, 0, 0}), on("n", "c", 1, 2, api.Res{2, 0, 0})}
	// a alone would be enough for each of them, and b alone for the first one.
	mustPlan(t, m, jobs, task(3, api.Res{1, 0, 0}), "c")
	mustPlan(t, m, jobs, task(3, api.Res{3, 0, 0}), "c", "b")
	mustPlan(t, m, jobs, task(3, api.Res{4, 0, 0}), "c", "b", "a")
}

func TestStrongerJobsKeepTheirRoom(t *testing.T) {
	m := machine("n", api.Res{4, 4, 0})
	jobs := []api.Job{on("n", "a", 5, 1, api.Res{2, 0, 0}), on("n", "b", 1, 2, api.Res{2, 4, 0})}
	mustPlan(t, m, jobs, task(5, api.Res{2, 4, 0}), "b")
	mustNotPlan(t, m, jobs, task(5, api.Res{3, 0, 0}))
	mustPlan(t, m, jobs, task(6, api.Res{3, 0, 0}), "b", "a")
}

func TestNumbersAtTheirBounds(t *testing.T) {
	all := api.Res{most, most, most}
	m, k := machine("n", all), task(1, all)
	mustPlan(t, m, nil, k)
	mustPlan(t, m, []api.Job{on("n", "a", 0, 1, all)}, k, "a")
	parts := []api.Job{on("n", "a", 0, 1, api.Res{most - 1, 0, 1}), on("n", "b", 0, 2, api.Res{1, most, most - 1})}
	mustPlan(t, m, parts, k, "b", "a")
	mustPlan(t, m, parts, task(1, api.Res{1, most, most - 1}), "b")
	mustPlan(t, m, parts, task(1, api.Res{1, 0, most}), "b", "a")
	mustPlan(t, m, parts, task(1, api.Res{}))
}

func TestJobsWithOneName(t *testing.T) {
	m := machine("n", api.Res{4, 0, 0})
	// Only the jobs that go make room, not those that are called like them.
	jobs := ones(rung{"a", 1, 4}, rung{"a", 8, 3}, rung{"a", 2, 2}, rung{"b", 1, 1})
	mustPlan(t, m, jobs, task(5, api.Res{1, 0, 0}), "a")
	mustPlan(t, m, jobs, task(5, api.Res{2, 0, 0}), "a", "b")
	mustPlan(t, m, jobs, task(5, api.Res{3, 0, 0}), "a", "b", "a")
	mustNotPlan(t, m, jobs, task(5, api.Res{4, 0, 0}))
	mustChoose(t, []api.Machine{m}, jobs, task(5, api.Res{3, 0, 0}), "n", "a", "b", "a")
}

func TestATaskThatIsBoundThereAlready(t *testing.T) {
	// As in layer 11, it needs its room in addition to what it uses; it goes itself only if it is stored with a lower Prio.
	m, k := machine("n", api.Res{4, 0, 0}), task(3, api.Res{2, 0, 0})
	jobs := []api.Job{on("n", "u", 3, 1, api.Res{2, 0, 0}), on("n", "a", 2, 2, api.Res{1, 0, 0})}
	mustPlan(t, m, jobs, k, "a")
	jobs[1].Task.Prio = 3
	mustNotPlan(t, m, jobs, k)
	jobs[0].Task.Prio = 2
	mustPlan(t, m, jobs, k, "u")
}

func TestNothingButRoomIsMade(t *testing.T) {
	gpu := api.Label{Key: "gpu", Value: "a"}
	full := machine("n", api.Res{4, 4, 4}, gpu)
	k := api.Task{Name: "u", Queue: "q", Prio: 5, Need: api.Res{4, 4, 4}, Wants: []api.Label{gpu}, Apart: "x"}
	jobs := []api.Job{on("n", "a", 1, 1, api.Res{4, 0, 0}), on("n", "b", 1, 2, api.Res{0, 4, 0})}
	mustPlan(t, full, jobs, k, "b", "a")
	mustNotPlan(t, down(full), jobs, k)
	mustNotPlan(t, machine("n", api.Res{4, 4, 4}), jobs, k)
	mustNotPlan(t, machine("n", api.Res{4, 4, 4}, api.Label{Key: "gpu", Value: "b"}), jobs, k)
	mustNotPlan(t, down(full), nil, k)
	// A weaker job from which the task must be apart does not go.
	for i := range jobs {
		jobs[i].Task.Apart = "x"
		mustNotPlan(t, full, jobs, k)
		mustNotChoose(t, []api.Machine{full}, jobs, k)
		jobs[i].Task.Apart = "y"
		mustPlan(t, full, jobs, k, "b", "a")
	}
	// A job with the name of the task is the task itself, which need not be apart from itself.
	jobs[0].Task.Apart, jobs[0].Task.Name = "x", "u"
	mustPlan(t, full, jobs, k, "b", "u")
}

func TestMachinesAndJobsThatAreNotValid(t *testing.T) {
	k, four := task(5, api.Res{4, 4, 4}), api.Res{4, 4, 4}
	label := api.Label{Key: "gpu", Value: "a"}
	for _, m := range []api.Machine{
		{}, {Up: true},
		machine("", four), machine("N", four), machine(strings.Repeat("n", api.MaxName+1), four),
		machine("n", api.Res{4, -1, 4}), machine("n", api.Res{4, 4, most + 1}), machine("n", api.Res{math.MaxInt, math.MinInt, 4}),
		machine("n", four, label, label), machine("n", four, api.Label{}),
	} {
		jobs := []api.Job{on(m.Node.Name, "a", 1, 1, api.Res{1, 1, 1})}
		mustNotPlan(t, m, jobs, k)
		mustNotPlan(t, m, nil, k)
		mustNotChoose(t, []api.Machine{m, m}, jobs, k)
	}
	for _, needs := range [][]api.Res{
		{{-1, 0, 0}}, {{0, math.MinInt, 0}}, {{0, 0, most + 1}}, {{math.MaxInt, 0, 0}, {1, 0, 0}}, {{5, 0, 0}}, {{1, 3, 0}, {0, 2, 0}}, {{0, 0, most}, {0, 0, 1}},
	} {
		var jobs []api.Job
		for i, need := range needs {
			jobs = append(jobs, on("n", "a", 1, i+1, need))
		}
		mustNotPlan(t, machine("n", four), jobs, k)
		mustNotPlan(t, machine("n", four), jobs, task(5, api.Res{}))
		mustNotChoose(t, []api.Machine{machine("n", four)}, jobs, k)
		mustChoose(t, []api.Machine{machine("n", four), machine("o", four)}, jobs, k, "o")
	}
}

func TestTasksThatAreNotValid(t *testing.T) {
	m, jobs := machine("n", api.Res{9, 9, 9}), []api.Job{on("n", "a", 0, 1, api.Res{9, 9, 9})}
	need := api.Res{1, 1, 1}
	mustPlan(t, m, jobs, task(1, need), "a")
	for _, k := range []api.Task{
		{}, {Name: "u", Prio: 1, Need: need},
		{Name: "U", Queue: "q", Prio: 1, Need: need},
		{Name: "u", Queue: strings.Repeat("q", api.MaxName+1), Prio: 1, Need: need},
		{Name: "u", Queue: "q", Prio: -1, Need: need},
		{Name: "u", Queue: "q", Prio: api.MaxPrio + 1, Need: need},
		{Name: "u", Queue: "q", Prio: math.MaxInt, Need: need},
		{Name: "u", Queue: "q", Prio: 1, Need: api.Res{-1, 0, 0}},
		{Name: "u", Queue: "q", Prio: 1, Need: api.Res{1, math.MinInt, 0}},
		{Name: "u", Queue: "q", Prio: 1, Need: api.Res{0, 0, most + 1}},
		{Name: "u", Queue: "q", Prio: 1, Need: need, Wants: []api.Label{{}}},
		{Name: "u", Queue: "q", Prio: 1, Need: need, Apart: "X"},
		{Name: "u", Queue: "q", Prio: 1, Need: need, Gang: "g", Size: 1},
		{Name: "u", Queue: "q", Prio: 1, Need: need, Size: 2},
	} {
		mustNotPlan(t, m, jobs, k)
		mustNotPlan(t, m, nil, k)
		mustNotChoose(t, []api.Machine{m, m}, jobs, k)
	}
}

func TestNothingElseMatters(t *testing.T) {
	m := machine("n", api.Res{4, 0, 0})
	m.Until = -5
	jobs := []api.Job{
		{Task: api.Task{Name: "A b", Prio: 1, Need: api.Res{2, 0, 0}, Apart: "y", Gang: "g", Size: 99}, Seq: 2, Node: "n", Bound: -1},
		{Task: api.Task{Name: "", Queue: "p", Prio: 1, Need: api.Res{2, 0, 0}, Wants: []api.Label{{}}}, Seq: 1, Node: "n"},
	}
	k := api.Task{Name: "u", Queue: "p", Prio: 9, Need: api.Res{3, 0, 0}, Apart: "x", Gang: "h", Size: 4}
	mustPlan(t, m, jobs, k, "A b", "")
	mustChoose(t, []api.Machine{m}, jobs, k, "n", "A b", "")
}
