package victim_test

import (
	"maps"
	"math"
	"slices"
	"strconv"
	"strings"
	"testing"

	"interregnum/api"
)

// filled makes machines with 4, 0, 0 that are full of jobs with these Prios, which need the same each.
func filled(prios map[string][]int) ([]api.Machine, []api.Job) {
	var machines []api.Machine
	var jobs []api.Job
	for _, name := range slices.Sorted(maps.Keys(prios)) {
		machines = append(machines, machine(name, api.Res{4, 0, 0}))
		l := prios[name]
		for i, prio := range l {
			jobs = append(jobs, on(name, name+strconv.Itoa(prio), prio, 100*len(jobs)+i, api.Res{4 / len(l), 0, 0}))
		}
	}
	return machines, jobs
}

// mustChooseInAnyOrder asks for the choice among machines in some orders.
func mustChooseInAnyOrder(t *testing.T, machines []api.Machine, jobs []api.Job, k api.Task, node string, want ...string) {
	t.Helper()
	for range machines {
		mustChoose(t, machines, jobs, k, node, want...)
		machines = append(slices.Clone(machines[1:]), machines[0])
	}
	slices.Reverse(machines)
	mustChoose(t, machines, jobs, k, node, want...)
}

func TestNoMachines(t *testing.T) {
	jobs := []api.Job{on("n", "a", 0, 1, api.Res{1, 0, 0})}
	mustNotChoose(t, nil, nil, task(9, api.Res{}))
	mustNotChoose(t, nil, jobs, task(9, api.Res{}))
	mustNotChoose(t, []api.Machine{machine("n", api.Res{1, 0, 0})}, jobs, task(0, api.Res{1, 0, 0}))
	mustNotChoose(t, []api.Machine{machine("n", api.Res{1, 0, 0}), machine("m", api.Res{2, 0, 0})}, jobs, task(9, api.Res{3, 0, 0}))
	mustNotChoose(t, []api.Machine{down(machine("n", api.Res{1, 0, 0})), down(machine("m", api.Res{2, 0, 0}))}, jobs, task(9, api.Res{}))
}

func TestMachinesWithoutAPlanAreNotChosen(t *testing.T) {
	machines, jobs := filled(map[string][]int{"a": {6}, "b": {5}, "c": {4, 4}, "d": {1, 6}})
	machines = append(machines, down(machine("e", api.Res{4, 0, 0})), machine("f", api.Res{3, 9, 9}), machine("G", api.Res{4, 0, 0}))
	mustChooseInAnyOrder(t, machines, jobs, task(5, api.Res{4, 0, 0}), "c", "c4", "c4")
	mustChooseInAnyOrder(t, machines, jobs, task(5, api.Res{2, 0, 0}), "f")
	machines = append(machines, machine("h", api.Res{4, 0, 0}))
	mustChooseInAnyOrder(t, machines, jobs, task(5, api.Res{4, 0, 0}), "h")
}

func TestFewestJobsFirst(t *testing.T) {
	for _, c := range []struct {
		prios map[string][]int
		node  string
		names []string
	}{
		// Not their Prios, their sum, or the names of the machines.
		{map[string][]int{"a": {0, 0}, "b": {8}}, "b", []string{"b8"}},
		{map[string][]int{"a": {0, 0, 0, 0}, "b": {8, 8}}, "b", []string{"b8", "b8"}},
		{map[string][]int{"a": {0, 0, 0, 0}, "b": {1, 1}, "c": {8}}, "c", []string{"c8"}},
		{map[string][]int{"a": {0}, "b": {}}, "b", nil},
		{map[string][]int{"a": {-5}, "b": {}, "c": {math.MinInt}}, "b", nil},
	} {
		machines, jobs := filled(c.prios)
		mustChooseInAnyOrder(t, machines, jobs, task(9, api.Res{4, 0, 0}), c.node, c.names...)
	}
}

func TestOnlyTheJobsToPreemptAreCounted(t *testing.T) {
	machines, jobs := filled(map[string][]int{"a": {1, 1}, "b": {0, 0, 0, 0}, "c": {2}})
	// Each of them has as many jobs to preempt, of those that are weaker.
	mustChooseInAnyOrder(t, machines, jobs, task(9, api.Res{1, 0, 0}), "b", "b0")
	mustChooseInAnyOrder(t, machines, jobs, task(9, api.Res{2, 0, 0}), "a", "a1")
	mustChooseInAnyOrder(t, machines, jobs, task(9, api.Res{3, 0, 0}), "c", "c2")
}

func TestOfAsManyJobsTheLowestLastPrioFirst(t *testing.T) {
	for _, c := range []struct {
		prios map[string][]int
		node  string
		names []string
	}{
		{map[string][]int{"a": {3}, "b": {1}, "c": {2}}, "b", []string{"b1"}},
		{map[string][]int{"a": {1}, "b": {0}}, "b", []string{"b0"}},
		{map[string][]int{"a": {0}, "b": {-2}}, "b", []string{"b-2"}},
		{map[string][]int{"a": {0}, "b": {math.MinInt}}, "b", []string{"b" + strconv.Itoa(math.MinInt)}},
		// The last one, which has the highest Prio, not the first one, and not their sum.
		{map[string][]int{"a": {0, 4}, "b": {3, 3}}, "b", []string{"b3", "b3"}},
		{map[string][]int{"a": {5, 0}, "b": {4, 4}, "c": {0, 6}}, "b", []string{"b4", "b4"}},
		{map[string][]int{"a": {0, 0, 0, 2}, "b": {1, 1, 1, 1}}, "b", []string{"b1", "b1", "b1", "b1"}},
	} {
		machines, jobs := filled(c.prios)
		mustChooseInAnyOrder(t, machines, jobs, task(9, api.Res{4, 0, 0}), c.node, c.names...)
	}
}

func TestTheLastPrioIsThatOfAJobToPreempt(t *testing.T) {
	// Only one of two has to go.
	machines, jobs := filled(map[string][]int{"a": {2, 3}, "b": {1, 8}, "c": {2}})
	mustChooseInAnyOrder(t, machines, jobs, task(9, api.Res{2, 0, 0}), "b", "b1")
	// The jobs that are called alike have different Prios.
	jobs = []api.Job{on("m", "x", 0, 1, api.Res{2, 0, 0}), on("m", "x", 3, 2, api.Res{2, 0, 0}), on("n", "y", 1, 3, api.Res{2, 0, 0}), on("n", "x", 2, 4, api.Res{2, 0, 0})}
	both := []api.Machine{machine("m", api.Res{4, 0, 0}), machine("n", api.Res{4, 0, 0})}
	mustChooseInAnyOrder(t, both, jobs, task(9, api.Res{4, 0, 0}), "n", "y", "x")
}

func TestThenTheLeastName(t *testing.T) {
	long := strings.Repeat("a", api.MaxName)
	for _, names := range [][]string{{"b", "a1", "a-b", "z", "aa", "9", "a", "a10", "0", long}, {long, "b", "a2", "aa", "a10"}, {"z9", "z10"}, {"za", "z-"}} {
		least, prios := slices.Min(names), map[string][]int{}
		for _, name := range names {
			prios[name] = []int{1, 2}
		}
		machines, jobs := filled(prios)
		mustChooseInAnyOrder(t, machines, jobs, task(9, api.Res{4, 0, 0}), least, least+"1", least+"2")
		mustChooseInAnyOrder(t, machines, jobs, task(9, api.Res{2, 0, 0}), least, least+"1")
		mustChooseInAnyOrder(t, machines, nil, task(9, api.Res{4, 0, 0}), least)
	}
}

func TestNeitherScoresNorSeqsMatter(t *testing.T) {
	// Layer 12 would select b for a task that fits both, and b has the job with the greatest Seq.
	machines := []api.Machine{machine("a", api.Res{9, 9, 9}), machine("b", api.Res{2, 0, 0})}
	mustChooseInAnyOrder(t, machines, nil, task(1, api.Res{2, 0, 0}), "a")
	jobs := []api.Job{on("b", "y", 0, 9, api.Res{2, 0, 0}), on("a", "x", 0, 1, api.Res{9, 9, 9})}
	mustChooseInAnyOrder(t, machines, jobs, task(1, api.Res{2, 0, 0}), "a", "x")
}

func TestMachinesWithOneName(t *testing.T) {
	two := api.Res{2, 0, 0}
	jobs := []api.Job{on("n", "a", 1, 1, two), on("n", "b", 2, 2, two), on("m", "c", 3, 3, api.Res{4, 0, 0})}
	k := task(5, api.Res{4, 0, 0})
	small, great, greater := machine("n", api.Res{4, 0, 0}), machine("n", api.Res{6, 0, 0}), machine("n", api.Res{8, 0, 0})
	// What is bound to the name is bound to each of them.
	mustChooseInAnyOrder(t, []api.Machine{small, small}, jobs, k, "n", "a", "b")
	mustChooseInAnyOrder(t, []api.Machine{small, great}, jobs, k, "n", "a")
	mustChooseInAnyOrder(t, []api.Machine{small, greater, great}, jobs, k, "n")
	mustChooseInAnyOrder(t, []api.Machine{down(greater), small, machine("n", two), great}, jobs, k, "n", "a")
	mustChooseInAnyOrder(t, []api.Machine{small, machine("m", api.Res{4, 0, 0}), small}, jobs, k, "m", "c")
	mustNotChoose(t, []api.Machine{machine("n", two), down(small), down(great)}, jobs, k)
}
