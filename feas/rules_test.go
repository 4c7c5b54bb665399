package feas_test

import (
	"reflect"
	"slices"
	"testing"

	"interregnum/api"
	"interregnum/feas"
)

// dice returns a function whose numbers, from 0 to below n, have no pattern, but are the same ones for the same seed.
func dice(seed uint32) func(n int) int {
	return func(n int) int {
		seed = seed*1664525 + 1013904223
		return int(seed>>8) % n
	}
}

// someLabels are some of three labels of which each has one of two values.
func someLabels(roll func(n int) int, oneOf int) []api.Label {
	var l []api.Label
	for _, key := range []string{"a", "b", "c"} {
		if roll(oneOf) == 0 {
			l = append(l, api.Label{Key: key, Value: string(rune('1' + roll(2)))})
		}
	}
	return l
}

// someVector is small.
func someVector(roll func(n int) int, below int) api.Res {
	return api.Res{roll(below), roll(below), roll(below)}
}

// someMachines have names that may repeat; few are not valid, few are down.
func someMachines(roll func(n int) int) []api.Machine {
	var machines []api.Machine
	for range roll(6) {
		m := machine(string(rune('k'+roll(4))), someVector(roll, 12), someLabels(roll, 2)...)
		m.Up = roll(6) > 0
		if roll(20) == 0 {
			m.Node.Cap[roll(api.Dims)] = -1
		}
		machines = append(machines, m)
	}
	return machines
}

// someTask is valid, but for one of many.
func someTask(roll func(n int) int) api.Task {
	k := task(string(rune('s'+roll(4))), someVector(roll, 4))
	k.Wants, k.Apart = someLabels(roll, 6), []string{"", "", "x", "y"}[roll(4)]
	if roll(50) == 0 {
		k.Need[roll(api.Dims)] = -1
	}
	return k
}

// someJobs wait, or are bound to machines, of which some do not exist.
func someJobs(roll func(n int) int) []api.Job {
	var jobs []api.Job
	for range roll(8) {
		jobs = append(jobs, on([]string{"", "k", "l", "m", "n", "o"}[roll(6)], someTask(roll)))
	}
	return jobs
}

// left is what is left of a machine, as plain numbers, and whether there are no wrong ones.
func left(m api.Machine, jobs []api.Job) (api.Res, bool) {
	free, right := m.Node.Cap, true
	for _, j := range jobs {
		for i, n := range j.Task.Need {
			if j.Node == m.Node.Name {
				free[i] -= n
				right = right && n >= 0
			}
		}
	}
	for i, n := range free {
		right = right && n >= 0 && m.Node.Cap[i] >= 0
	}
	return free, right
}

// hasAll tells whether a machine has all labels that a task wants.
func hasAll(m api.Machine, k api.Task) bool {
	for _, want := range k.Wants {
		if !slices.Contains(m.Node.Labels, want) {
			return false
		}
	}
	return true
}

// isAlone tells whether no other task on a machine has the same Apart.
func isAlone(m api.Machine, jobs []api.Job, k api.Task) bool {
	for _, j := range jobs {
		if k.Apart != "" && j.Node == m.Node.Name && j.Task.Apart == k.Apart && j.Task.Name != k.Name {
			return false
		}
	}
	return true
}

// reason tells why not, for machines and tasks of which nothing but numbers may be wrong.
func reason(m api.Machine, jobs []api.Job, k api.Task) int {
	free, right := left(m, jobs)
	room := true
	for i, n := range k.Need {
		right = right && n >= 0
		room = room && n <= free[i]
	}
	holds := [6]bool{feas.Wrong: right, feas.Down: m.Up, feas.Wants: hasAll(m, k), feas.Apart: isAlone(m, jobs, k), feas.Room: room}
	for _, why := range []int{feas.Wrong, feas.Down, feas.Wants, feas.Apart, feas.Room} {
		if !holds[why] {
			return why
		}
	}
	return feas.Can
}

func TestReasonsOfManyMachines(t *testing.T) {
	roll := dice(11)
	seen := [6]int{}
	for range 20000 {
		machines, jobs, k := someMachines(roll), someJobs(roll), someTask(roll)
		var names []string
		for _, m := range machines {
			want := reason(m, jobs, k)
			mustSay(t, m, jobs, k, want)
			seen[want]++
			if want == feas.Can {
				names = append(names, m.Node.Name)
			}
			if free, right := left(m, jobs); right {
				mustLeave(t, m, jobs, free, api.OK)
			} else if _, err := feas.Free(m, jobs); err == api.OK {
				t.Errorf("Free(%v, %v): no error", m, jobs)
			}
		}
		slices.Sort(names)
		mustList(t, machines, jobs, k, names...)
		if t.Failed() {
			break
		}
	}
	for why, times := range seen {
		if times < 100 {
			t.Errorf("%d was the reason %d times", why, times)
		}
	}
}

func TestWhatCanRunHasRoomInAddition(t *testing.T) {
	roll := dice(12)
	for range 5000 {
		jobs, k := someJobs(roll), someTask(roll)
		for _, m := range someMachines(roll) {
			if feas.Why(m, jobs, k) != feas.Can {
				continue
			}
			before, _ := feas.Free(m, jobs)
			after, err := feas.Free(m, append(slices.Clone(jobs), on(m.Node.Name, k)))
			for i, n := range k.Need {
				if err != api.OK || after[i] < 0 || after[i] != before[i]-n {
					t.Fatalf("of %v, %v is left with %v, %v (%d) with %v too", m, before, jobs, after, err, k)
				}
			}
		}
	}
}

func TestWhatCanRunCanWithFewerJobsOrLessNeed(t *testing.T) {
	roll := dice(13)
	fewer, less := 0, 0
	for range 5000 {
		jobs, k := someJobs(roll), someTask(roll)
		for _, m := range someMachines(roll) {
			if feas.Why(m, jobs, k) != feas.Can {
				continue
			}
			for i := range jobs {
				mustSay(t, m, slices.Delete(slices.Clone(jobs), i, i+1), k, feas.Can)
				waits := slices.Clone(jobs)
				waits[i].Node = ""
				mustSay(t, m, waits, k, feas.Can)
				fewer++
			}
			for i := range k.Need {
				smaller := k
				for smaller.Need[i] > 0 {
					smaller.Need[i]--
					mustSay(t, m, jobs, smaller, feas.Can)
					less++
				}
			}
		}
	}
	if fewer < 1000 || less < 1000 {
		t.Errorf("%d times fewer jobs, %d times less need", fewer, less)
	}
}

func TestTheOrderOfMachinesAndJobsDoesNotMatter(t *testing.T) {
	roll := dice(14)
	for range 3000 {
		machines, jobs, k := someMachines(roll), someJobs(roll), someTask(roll)
		want := feas.All(machines, jobs, k)
		slices.Reverse(machines)
		mustList(t, machines, jobs, k, want...)
		slices.Reverse(jobs)
		mustList(t, machines, jobs, k, want...)
	}
}

// stored are machines and jobs with fields of all kinds, the last ones of which are wrong.
func stored() ([]api.Machine, []api.Job) {
	machines := []api.Machine{
		{Node: api.Node{Name: "z", Cap: api.Res{4, 4, 4}, Labels: []api.Label{{Key: "k", Value: "v"}}}, Up: true, Until: 3},
		{Node: api.Node{Name: "n", Cap: api.Res{4, 4, 4}, Labels: []api.Label{{Key: "j", Value: "v"}, {Key: "k", Value: "v"}}}, Up: true, Until: 9},
		{Node: api.Node{Name: "a", Cap: api.Res{9, 9, 9}}, Up: true},
		{Node: api.Node{Name: "-", Labels: []api.Label{{}, {}}}},
	}
	jobs := []api.Job{
		{Task: api.Task{Name: "a", Queue: "q", Prio: 1, Need: api.Res{1, 2, 3}, Wants: []api.Label{{Key: "k", Value: "v"}}, Apart: "x"}, Seq: 3, Node: "n", Bound: 1},
		{Task: api.Task{Name: "b", Queue: "p", Need: api.Res{9, 9, 9}, Gang: "g", Size: 2}, Seq: 1},
		{Task: api.Task{Name: "c", Queue: "q", Need: api.Res{1, 0, 0}}, Seq: 2, Node: "z", Bound: 7},
		{Task: api.Task{Name: "d", Queue: "q", Need: api.Res{-1, 0, 0}, Apart: "x"}, Seq: 4, Node: "n", Bound: 1},
	}
	return machines, jobs
}

// wanted is a task that two of the stored machines can run.
func wanted() api.Task {
	return api.Task{Name: "u", Queue: "q", Need: api.Res{1, 1, 1}, Wants: []api.Label{{Key: "k", Value: "v"}}, Apart: "y"}
}

func TestArgumentsStayAsTheyAre(t *testing.T) {
	machines, jobs := stored()
	k := wanted()
	for size := range len(jobs) + 1 {
		for _, m := range machines {
			feas.Free(m, jobs[:size])
			feas.Why(m, jobs[:size], k)
		}
		feas.All(machines, jobs[:size], k)
		feas.All(machines[:size], jobs, k)
	}
	freshMachines, freshJobs := stored()
	if !reflect.DeepEqual(machines, freshMachines) || !reflect.DeepEqual(jobs, freshJobs) || !reflect.DeepEqual(k, wanted()) {
		t.Errorf("the arguments became %v, %v, %v", machines, jobs, k)
	}
}

func TestMemoryBeyondTheLengthIsNotRead(t *testing.T) {
	machines, jobs := stored()
	mustLeave(t, machines[1], jobs[:3], api.Res{3, 2, 1}, api.OK)
	mustLeave(t, machines[1], jobs[:0], api.Res{4, 4, 4}, api.OK)
	mustSay(t, machines[1], jobs[:3], wanted(), feas.Can)
	mustList(t, machines[:2], jobs[:3], wanted(), "n", "z")
	mustList(t, machines[:1], jobs[:3], wanted(), "z")
	short := machines[1]
	short.Node.Labels = short.Node.Labels[:1]
	mustSay(t, short, nil, wanted(), feas.Wants)
	none := wanted()
	none.Wants = none.Wants[:0]
	mustSay(t, short, nil, none, feas.Can)
}

func TestNilIsLikeEmpty(t *testing.T) {
	for _, jobs := range [][]api.Job{nil, {}} {
		for _, labels := range [][]api.Label{nil, {}} {
			m := machine("n", api.Res{1, 2, 3}, labels...)
			mustLeave(t, m, jobs, api.Res{1, 2, 3}, api.OK)
			mustSay(t, m, jobs, wanting(labels...), feas.Can)
			mustList(t, []api.Machine{m}, jobs, wanting(labels...), "n")
		}
		for _, machines := range [][]api.Machine{nil, {}} {
			mustList(t, machines, jobs, task("u", api.Res{}))
		}
	}
}

func TestResultsAreInNewMemory(t *testing.T) {
	machines, jobs := stored()
	one, other := feas.All(machines, jobs[:3], wanted()), feas.All(machines, jobs[:3], wanted())
	clear(one)
	_ = append(one[:0], "b", "c")
	if !slices.Equal(other, []string{"n", "z"}) {
		t.Errorf("writing to one result changed another one to %q", other)
	}
	mustList(t, machines, jobs[:3], wanted(), "n", "z")
}

func TestCallsDoNotDependOnEarlierOnes(t *testing.T) {
	machines, jobs := stored()
	for range 3 {
		mustLeave(t, machines[1], jobs[:3], api.Res{3, 2, 1}, api.OK)
		mustLeave(t, machines[1], jobs, api.Res{}, api.ErrArg)
		mustSay(t, machines[1], jobs[:3], wanted(), feas.Can)
		mustSay(t, machines[1], jobs, wanted(), feas.Wrong)
		mustSay(t, machines[2], jobs, wanted(), feas.Wants)
		mustList(t, machines, jobs[:3], wanted(), "n", "z")
		mustList(t, machines, jobs, wanted(), "z")
	}
	machines[1].Up, jobs[3].Node = false, "z"
	mustSay(t, machines[1], jobs, wanted(), feas.Down)
	mustList(t, machines, jobs, wanted())
}
