package rank_test

import (
	"reflect"
	"slices"
	"testing"

	"interregnum/api"
	"interregnum/feas"
	"interregnum/rank"
)

// dice returns a function whose numbers, from 0 to below n, have no pattern, but are the same ones for the same seed.
func dice(seed uint32) func(n int) int {
	return func(n int) int {
		seed = seed*1664525 + 1013904223
		return int(seed>>8) % n
	}
}

// someVector is small, so that scores are often equal.
func someVector(roll func(n int) int, below int) api.Res {
	return api.Res{roll(below), roll(below), roll(below)}
}

// someMachines have names that may repeat; few are not valid, few are down.
func someMachines(roll func(n int) int) []api.Machine {
	var machines []api.Machine
	for range roll(8) {
		m := machine(string(rune('k'+roll(4))), someVector(roll, 9))
		m.Up = roll(8) > 0
		if roll(20) == 0 {
			m.Node.Cap[roll(api.Dims)] = -1
		}
		machines = append(machines, m)
	}
	return machines
}

// someJobs wait, or are bound to machines, of which some do not exist.
func someJobs(roll func(n int) int) []api.Job {
	var jobs []api.Job
	for range roll(6) {
		jobs = append(jobs, on([]string{"", "k", "l", "m", "n", "o"}[roll(6)], someVector(roll, 3)))
	}
	return jobs
}

// share is the score of a machine that can run a task, worked out from the numbers one by one.
func share(m api.Machine, jobs []api.Job, k api.Task) int {
	sum := 0
	for i, whole := range m.Node.Cap {
		left := whole - k.Need[i]
		for _, j := range jobs {
			if j.Node == m.Node.Name {
				left -= j.Task.Need[i]
			}
		}
		if whole > 0 {
			sum += left * 1000 / whole
		}
	}
	return sum
}

// entry is a machine with its score.
type entry struct {
	score int
	name  string
}

// isBetter tells whether a is better than b.
func isBetter(a, b entry) bool {
	return a.score < b.score || a.score == b.score && a.name < b.name
}

// inserted puts an entry in its place among those that are in order.
func inserted(l []entry, e entry) []entry {
	at := 0
	for at < len(l) && !isBetter(e, l[at]) {
		at++
	}
	return slices.Insert(l, at, e)
}

func TestScoresAndOrderOfManyMachines(t *testing.T) {
	roll := dice(21)
	able, equal := 0, 0
	for range 20000 {
		machines, jobs, k := someMachines(roll), someJobs(roll), task(someVector(roll, 3))
		var l []entry
		for _, m := range machines {
			if feas.Why(m, jobs, k) != feas.Can {
				mustNotScore(t, m, jobs, k)
				continue
			}
			mustScore(t, m, jobs, k, share(m, jobs, k))
			l = inserted(l, entry{share(m, jobs, k), m.Node.Name})
			able++
		}
		var names []string
		for i, e := range l {
			names = append(names, e.name)
			if i > 0 && l[i-1].score == e.score && l[i-1].name < e.name {
				equal++
			}
		}
		mustRank(t, machines, jobs, k, names...)
		if t.Failed() {
			break
		}
	}
	if able < 5000 || equal < 100 {
		t.Errorf("%d machines could run a task, %d of them had equal scores", able, equal)
	}
}

// lowest is the score of the best machine, by the scores of all that have its name.
func lowest(t *testing.T, machines []api.Machine, jobs []api.Job, k api.Task) (int, bool) {
	t.Helper()
	best, some := rank.Best(machines, jobs, k)
	score, found := 0, false
	for _, m := range machines {
		if s, ok := rank.Score(m, jobs, k); ok && m.Node.Name == best && (!found || s < score) {
			score, found = s, true
		}
	}
	if found != some {
		t.Errorf("Best(%v, %v, %v) = %q, %t", machines, jobs, k, best, some)
	}
	return score, found
}

func TestTheScoreOfTheBestOneIsAtMostThatOfOthers(t *testing.T) {
	roll := dice(22)
	for range 3000 {
		machines, jobs, k := someMachines(roll), someJobs(roll), task(someVector(roll, 3))
		low, some := lowest(t, machines, jobs, k)
		for _, m := range machines {
			if score, ok := rank.Score(m, jobs, k); ok && (!some || score < low) {
				t.Fatalf("of %v, %v has the score %d, and the best one has %d, %t", machines, m, score, low, some)
			}
		}
	}
}

func TestTheOrderOfMachinesDoesNotMatter(t *testing.T) {
	roll := dice(23)
	for range 3000 {
		machines, jobs, k := someMachines(roll), someJobs(roll), task(someVector(roll, 3))
		want := rank.Sorted(machines, jobs, k)
		slices.Reverse(machines)
		mustRank(t, machines, jobs, k, want...)
		for i := range machines {
			j := roll(i + 1)
			machines[i], machines[j] = machines[j], machines[i]
		}
		mustRank(t, machines, jobs, k, want...)
	}
}

func TestAnAdditionalMachineCanOnlyMakeTheBestScoreLower(t *testing.T) {
	roll := dice(24)
	lower := 0
	for range 5000 {
		machines, jobs, k := someMachines(roll), someJobs(roll), task(someVector(roll, 3))
		before, some := lowest(t, nil, jobs, k)
		for count := range machines {
			after, ok := lowest(t, machines[:count+1], jobs, k)
			if some && (!ok || after > before) {
				t.Fatalf("with %v, the best score is %d, %t, not at most %d", machines[:count+1], after, ok, before)
			}
			if some && after < before {
				lower++
			}
			before, some = after, ok
		}
	}
	if lower < 100 {
		t.Errorf("the best score became lower %d times", lower)
	}
}

// stored are machines and jobs with fields of all kinds, the last ones of which are wrong.
func stored() ([]api.Machine, []api.Job) {
	machines := []api.Machine{
		{Node: api.Node{Name: "z", Cap: api.Res{4, 4, 4}, Labels: []api.Label{{Key: "k", Value: "v"}}}, Up: true, Until: 3},
		{Node: api.Node{Name: "n", Cap: api.Res{4, 4, 4}, Labels: []api.Label{{Key: "j", Value: "v"}, {Key: "k", Value: "v"}}}, Up: true, Until: 9},
		{Node: api.Node{Name: "a", Cap: api.Res{2, 2, 2}, Labels: []api.Label{{Key: "k", Value: "v"}}}, Up: true},
		{Node: api.Node{Name: "-", Labels: []api.Label{{}, {}}}},
	}
	jobs := []api.Job{
		{Task: api.Task{Name: "a", Queue: "q", Prio: 1, Need: api.Res{1, 2, 3}, Wants: []api.Label{{Key: "k", Value: "v"}}, Apart: "x"}, Seq: 3, Node: "n", Bound: 1},
		{Task: api.Task{Name: "b", Queue: "p", Need: api.Res{9, 9, 9}, Gang: "g", Size: 2}, Seq: 1},
		{Task: api.Task{Name: "c", Queue: "q", Need: api.Res{1, 0, 0}}, Seq: 2, Node: "z", Bound: 7},
		{Task: api.Task{Name: "d", Queue: "q", Need: api.Res{-1, 0, 0}, Apart: "y"}, Seq: 4, Node: "n", Bound: 1},
	}
	return machines, jobs
}

// wanted is a task that three of the stored machines can run.
func wanted() api.Task {
	return api.Task{Name: "u", Queue: "q", Need: api.Res{1, 1, 1}, Wants: []api.Label{{Key: "k", Value: "v"}}, Apart: "y"}
}

func TestArgumentsStayAsTheyAre(t *testing.T) {
	machines, jobs := stored()
	k := wanted()
	for size := range len(jobs) + 1 {
		for _, m := range machines {
			rank.Score(m, jobs[:size], k)
		}
		rank.Best(machines, jobs[:size], k)
		rank.Best(machines[:size], jobs, k)
		rank.Sorted(machines, jobs[:size], k)
		rank.Sorted(machines[:size], jobs, k)
	}
	freshMachines, freshJobs := stored()
	if !reflect.DeepEqual(machines, freshMachines) || !reflect.DeepEqual(jobs, freshJobs) || !reflect.DeepEqual(k, wanted()) {
		t.Errorf("the arguments became %v, %v, %v", machines, jobs, k)
	}
}

func TestMemoryBeyondTheLengthIsNotRead(t *testing.T) {
	machines, jobs := stored()
	mustScore(t, machines[1], jobs[:3], wanted(), 500+250)
	mustScore(t, machines[1], jobs[:0], wanted(), 3*750)
	mustRank(t, machines[:3], jobs[:3], wanted(), "n", "a", "z")
	mustRank(t, machines[:2], jobs[:3], wanted(), "n", "z")
	mustRank(t, machines[:2], jobs[:0], wanted(), "n", "z")
	mustRank(t, machines[:1], jobs[:3], wanted(), "z")
	mustRank(t, machines[:0], jobs[:3], wanted())
	short := machines[1]
	short.Node.Labels = short.Node.Labels[:1]
	mustNotScore(t, short, nil, wanted())
	none := wanted()
	none.Wants = none.Wants[:0]
	mustScore(t, short, nil, none, 3*750)
}

func TestNilIsLikeEmpty(t *testing.T) {
	for _, jobs := range [][]api.Job{nil, {}} {
		for _, labels := range [][]api.Label{nil, {}} {
			m, k := machine("n", api.Res{2, 0, 0}, labels...), task(api.Res{1, 0, 0})
			k.Wants = labels
			mustScore(t, m, jobs, k, 500)
			mustRank(t, []api.Machine{m}, jobs, k, "n")
		}
		for _, machines := range [][]api.Machine{nil, {}} {
			mustRank(t, machines, jobs, task(api.Res{}))
		}
	}
}

func TestResultsAreInNewMemory(t *testing.T) {
	machines, jobs := stored()
	one, other := rank.Sorted(machines, jobs[:3], wanted()), rank.Sorted(machines, jobs[:3], wanted())
	clear(one)
	_ = append(one[:0], "b", "c")
	if !slices.Equal(other, []string{"n", "a", "z"}) {
		t.Errorf("writing to one result changed another one to %q", other)
	}
	mustRank(t, machines, jobs[:3], wanted(), "n", "a", "z")
}

func TestCallsDoNotDependOnEarlierOnes(t *testing.T) {
	machines, jobs := stored()
	for range 3 {
		mustScore(t, machines[1], jobs[:3], wanted(), 500+250)
		mustNotScore(t, machines[1], jobs, wanted())
		mustRank(t, machines, jobs[:3], wanted(), "n", "a", "z")
		mustRank(t, machines, jobs, wanted(), "a", "z")
		mustRank(t, machines[1:2], jobs, wanted())
	}
	machines[1].Up, jobs[2].Node = false, "a"
	mustNotScore(t, machines[1], jobs, wanted())
	mustRank(t, machines, jobs, wanted(), "a", "z")
	machines[2].Node.Cap = api.Res{9, 9, 9}
	mustRank(t, machines, jobs, wanted(), "z", "a")
}
