package victim_test

import (
	"reflect"
	"slices"
	"testing"

	"interregnum/api"
	"interregnum/feas"
	"interregnum/victim"
)

// dice returns a function whose numbers, from 0 to below n, have no pattern, but are the same ones for the same seed.
func dice(seed uint32) func(n int) int {
	return func(n int) int {
		seed = seed*1664525 + 1013904223
		return int(seed>>8) % n
	}
}

// someVector is small.
func someVector(roll func(n int) int, below int) api.Res {
	return api.Res{roll(below), roll(below), roll(below)}
}

// someMachines have names that may repeat, and little room beside these jobs; few are not valid, few are down.
func someMachines(roll func(n int) int, jobs []api.Job) []api.Machine {
	var machines []api.Machine
	for range roll(6) {
		m := machine(string(rune('k'+roll(4))), someVector(roll, 2))
		for _, j := range jobs {
			for i, n := range j.Task.Need {
				if j.Node == m.Node.Name {
					m.Node.Cap[i] += n
				}
			}
		}
		if roll(4) > 0 {
			m.Node.Labels = []api.Label{{Key: "a", Value: "1"}}
		}
		m.Up = roll(10) > 0
		if roll(20) == 0 {
			m.Node.Cap[roll(api.Dims)]--
		}
		machines = append(machines, m)
	}
	return machines
}

// someTask is valid, but for one of many; its Prio is often that of others.
func someTask(roll func(n int) int, prios int) api.Task {
	k := task(roll(prios), someVector(roll, 4))
	k.Name = string(rune('s' + roll(8)))
	k.Apart = []string{"", "", "", "", "x", "y"}[roll(6)]
	if roll(8) == 0 {
		k.Wants = []api.Label{{Key: "a", Value: "1"}}
	}
	if roll(60) == 0 {
		k.Need[roll(api.Dims)] = -1
	}
	return k
}

// someJobs wait, or are bound to machines, of which some do not exist; their names, Prios and Seqs repeat.
func someJobs(roll func(n int) int) []api.Job {
	var jobs []api.Job
	for range roll(20) {
		jobs = append(jobs, api.Job{Task: someTask(roll, 3), Seq: roll(4), Node: []string{"", "k", "l", "m", "n", "o"}[roll(6)]})
	}
	return jobs
}

// someCase is all that Choose is given.
func someCase(roll func(n int) int) ([]api.Machine, []api.Job, api.Task) {
	jobs := someJobs(roll)
	return someMachines(roll, jobs), jobs, someTask(roll, 4)
}

// without returns the jobs but those at some places.
func without(jobs []api.Job, gone []int) []api.Job {
	var rest []api.Job
	for i, j := range jobs {
		if !slices.Contains(gone, i) {
			rest = append(rest, j)
		}
	}
	return rest
}

// goesBefore tells whether the job at i is preempted before that at j.
func goesBefore(jobs []api.Job, i, j int) bool {
	a, b := jobs[i], jobs[j]
	if a.Task.Prio != b.Task.Prio {
		return a.Task.Prio < b.Task.Prio
	}
	if a.Seq != b.Seq {
		return a.Seq > b.Seq
	}
	return i < j
}

// ladder returns the places of the weaker jobs of a machine, each one put in its place by itself.
func ladder(m api.Machine, jobs []api.Job, k api.Task) []int {
	var places []int
	for i, j := range jobs {
		if j.Node != m.Node.Name || j.Task.Prio >= k.Prio {
			continue
		}
		at := 0
		for at < len(places) && goesBefore(jobs, places[at], i) {
			at++
		}
		places = slices.Insert(places, at, i)
	}
	return places
}

// gone returns the places of the jobs to preempt, found by trying one after the other.
func gone(m api.Machine, jobs []api.Job, k api.Task) ([]int, bool) {
	places := ladder(m, jobs, k)
	if why := feas.Why(m, jobs, k); why != feas.Can && why != feas.Room {
		return nil, false
	}
	for count := range len(places) + 1 {
		if feas.Why(m, without(jobs, places[:count]), k) == feas.Can {
			return places[:count], true
		}
	}
	return nil, false
}

// called returns the names of the jobs at some places.
func called(jobs []api.Job, places []int) []string {
	var names []string
	for _, i := range places {
		names = append(names, jobs[i].Task.Name)
	}
	return names
}

func TestPlansOfManyMachines(t *testing.T) {
	roll := dice(31)
	seen := map[int]int{}
	for range 20000 {
		jobs, k := someJobs(roll), someTask(roll, 4)
		for _, m := range someMachines(roll, jobs) {
			places, ok := gone(m, jobs, k)
			if !ok {
				mustNotPlan(t, m, jobs, k)
				seen[-1]++
				continue
			}
			mustPlan(t, m, jobs, k, called(jobs, places)...)
			seen[len(places)]++
		}
		if t.Failed() {
			break
		}
	}
	for count := -1; count < 4; count++ {
		if seen[count] < 100 {
			t.Errorf("%d jobs had to go %d times", count, seen[count])
		}
	}
}

// isBetter tells whether the machine a, where jobs at some places go, is better than b, where others go.
func isBetter(jobs []api.Job, a, b api.Machine, goingA, goingB []int) bool {
	if len(goingA) != len(goingB) {
		return len(goingA) < len(goingB)
	}
	if last := len(goingA) - 1; last >= 0 && jobs[goingA[last]].Task.Prio != jobs[goingB[last]].Task.Prio {
		return jobs[goingA[last]].Task.Prio < jobs[goingB[last]].Task.Prio
	}
	return a.Node.Name < b.Node.Name
}

func TestChoicesAmongManyMachines(t *testing.T) {
	roll := dice(32)
	found, none, preempting := 0, 0, 0
	for range 20000 {
		machines, jobs, k := someCase(roll)
		best, going := -1, []int(nil)
		for i, m := range machines {
			places, ok := gone(m, jobs, k)
			if ok && (best < 0 || isBetter(jobs, m, machines[best], places, going)) {
				best, going = i, places
			}
		}
		if best < 0 {
			none++
			mustNotChoose(t, machines, jobs, k)
		} else {
			found++
			mustChoose(t, machines, jobs, k, machines[best].Node.Name, called(jobs, going)...)
		}
		if len(going) > 0 {
			preempting++
		}
		if t.Failed() {
			break
		}
	}
	if found < 1000 || none < 1000 || preempting < 1000 {
		t.Errorf("%d choices, %d of them with jobs to preempt; %d times none", found, preempting, none)
	}
}

// rename gives each job a name of its own, so that names tell which ones go.
func rename(jobs []api.Job) []api.Job {
	for i := range jobs {
		jobs[i].Task.Name = string(rune('a' + i))
	}
	return jobs
}

// placesOf returns the places of the jobs with some names.
func placesOf(jobs []api.Job, names []string) []int {
	var places []int
	for _, name := range names {
		places = append(places, slices.IndexFunc(jobs, func(j api.Job) bool { return j.Task.Name == name }))
	}
	return places
}

func TestWithoutTheJobsToPreemptTheMachineCanRunTheTask(t *testing.T) {
	roll := dice(33)
	checked := 0
	for range 20000 {
		jobs, k := rename(someJobs(roll)), someTask(roll, 4)
		for _, m := range someMachines(roll, jobs) {
			names, ok := victim.Plan(m, jobs, k)
			if !ok {
				continue
			}
			places := placesOf(jobs, names)
			if why := feas.Why(m, without(jobs, places), k); why != feas.Can {
				t.Fatalf("%v cannot run %v (%d) without %q of %v", m, k, why, names, jobs)
			}
			for _, i := range places {
				if jobs[i].Task.Prio >= k.Prio || jobs[i].Node != m.Node.Name {
					t.Fatalf("on %v, %v goes for %v", m, jobs[i], k)
				}
			}
			if len(places) == 0 {
				continue
			}
			checked++
			if why := feas.Why(m, without(jobs, places[:len(places)-1]), k); why != feas.Room {
				t.Fatalf("on %v, %q of %v are more than are needed for %v (%d)", m, names, jobs, k, why)
			}
		}
	}
	if checked < 1000 {
		t.Errorf("%d plans had jobs to preempt", checked)
	}
}

func TestAChoiceIsAPlanOfItsMachine(t *testing.T) {
	roll := dice(34)
	for range 5000 {
		machines, jobs, k := someCase(roll)
		node, names, ok := victim.Choose(machines, jobs, k)
		isPlan := !ok
		for _, m := range machines {
			plan, has := victim.Plan(m, jobs, k)
			isPlan = isPlan || has && m.Node.Name == node && slices.Equal(plan, names)
			if has && (!ok || len(plan) < len(names)) {
				t.Fatalf("Choose(%v, %v, %v) = %q, %q, %t, but %v has the plan %q", machines, jobs, k, node, names, ok, m, plan)
			}
		}
		if !isPlan {
			t.Fatalf("Choose(%v, %v, %v) = %q, %q, which is no plan there", machines, jobs, k, node, names)
		}
	}
}

func TestTheOrderOfTheMachinesDoesNotMatter(t *testing.T) {
	// What is told of machines with one name is the same, as what is bound to one of them is bound to all.
	roll := dice(35)
	for range 3000 {
		machines, jobs, k := someCase(roll)
		node, names, ok := victim.Choose(machines, jobs, k)
		for range machines {
			for i := range machines {
				j := roll(i + 1)
				machines[i], machines[j] = machines[j], machines[i]
			}
			if ok {
				mustChoose(t, machines, jobs, k, node, names...)
			} else {
				mustNotChoose(t, machines, jobs, k)
			}
		}
	}
}

// stored are machines and jobs with fields of all kinds, the last ones of which are wrong.
func stored() ([]api.Machine, []api.Job) {
	machines := []api.Machine{
		{Node: api.Node{Name: "z", Cap: api.Res{4, 4, 4}, Labels: []api.Label{{Key: "k", Value: "v"}}}, Up: true, Until: 3},
		{Node: api.Node{Name: "n", Cap: api.Res{4, 4, 4}, Labels: []api.Label{{Key: "j", Value: "v"}, {Key: "k", Value: "v"}}}, Up: true, Until: 9},
		{Node: api.Node{Name: "a", Cap: api.Res{4, 4, 4}, Labels: []api.Label{{Key: "k", Value: "v"}}}, Up: true},
		{Node: api.Node{Name: "-", Labels: []api.Label{{}, {}}}},
	}
	jobs := []api.Job{
		{Task: api.Task{Name: "a", Queue: "q", Prio: 2, Need: api.Res{1, 2, 0}, Wants: []api.Label{{Key: "k", Value: "v"}}, Apart: "x"}, Seq: 3, Node: "n", Bound: 1},
		{Task: api.Task{Name: "b", Queue: "p", Prio: 3, Need: api.Res{3, 2, 4}, Gang: "g", Size: 2}, Seq: 1, Node: "z", Bound: 4},
		{Task: api.Task{Name: "c", Queue: "q", Prio: 1, Need: api.Res{3, 0, 0}}, Seq: 2, Node: "n", Bound: 7},
		{Task: api.Task{Name: "d", Queue: "q", Prio: 0, Need: api.Res{4, 4, 4}}, Seq: 5, Node: "a", Bound: 2},
		{Task: api.Task{Name: "e", Queue: "q", Prio: 0, Need: api.Res{-1, 0, 0}}, Seq: 4, Node: "n", Bound: 1},
	}
	return machines, jobs
}

// wanted is a task for which the first three of the stored machines have a plan, beside all jobs but the last one.
func wanted() api.Task {
	return api.Task{Name: "u", Queue: "q", Prio: 4, Need: api.Res{4, 4, 4}, Wants: []api.Label{{Key: "k", Value: "v"}}, Apart: "y"}
}

func TestArgumentsStayAsTheyAre(t *testing.T) {
	machines, jobs := stored()
	k := wanted()
	for size := range len(jobs) + 1 {
		for _, m := range machines {
			victim.Plan(m, jobs[:size], k)
		}
		victim.Choose(machines, jobs[:size], k)
		victim.Choose(machines[:min(size, len(machines))], jobs, k)
	}
	freshMachines, freshJobs := stored()
	if !reflect.DeepEqual(machines, freshMachines) || !reflect.DeepEqual(jobs, freshJobs) || !reflect.DeepEqual(k, wanted()) {
		t.Errorf("the arguments became %v, %v, %v", machines, jobs, k)
	}
}

func TestMemoryBeyondTheLengthIsNotRead(t *testing.T) {
	machines, jobs := stored()
	mustPlan(t, machines[1], jobs[:3], wanted(), "c", "a")
	mustPlan(t, machines[1], jobs[:2], wanted(), "a")
	mustPlan(t, machines[1], jobs[:0], wanted())
	mustChoose(t, machines, jobs[:4], wanted(), "a", "d")
	mustChoose(t, machines, jobs[:3], wanted(), "a")
	mustChoose(t, machines[:2], jobs[:3], wanted(), "z", "b")
	mustChoose(t, machines[:2], jobs[:1], wanted(), "z")
	mustChoose(t, machines[:1], jobs[:1], wanted(), "z")
	mustNotChoose(t, machines[:0], jobs[:1], wanted())
	short := machines[1]
	short.Node.Labels = short.Node.Labels[:1]
	mustNotPlan(t, short, jobs[:3], wanted())
	none := wanted()
	none.Wants = none.Wants[:0]
	mustPlan(t, short, jobs[:3], none, "c", "a")
}

func TestNilIsLikeEmpty(t *testing.T) {
	for _, jobs := range [][]api.Job{nil, {}} {
		for _, labels := range [][]api.Label{nil, {}} {
			m, k := machine("n", api.Res{2, 0, 0}, labels...), task(1, api.Res{1, 0, 0})
			k.Wants = labels
			mustPlan(t, m, jobs, k)
			mustChoose(t, []api.Machine{m}, jobs, k, "n")
			mustPlan(t, m, append(jobs, on("n", "a", 0, 1, api.Res{2, 0, 0})), k, "a")
		}
		for _, machines := range [][]api.Machine{nil, {}} {
			mustNotChoose(t, machines, jobs, task(1, api.Res{}))
		}
	}
}

func TestResultsAreInNewMemory(t *testing.T) {
	machines, jobs := stored()
	one, _ := victim.Plan(machines[1], jobs[:4], wanted())
	other, _ := victim.Plan(machines[1], jobs[:4], wanted())
	_, third, _ := victim.Choose(machines[1:2], jobs[:4], wanted())
	clear(one)
	_ = append(one[:0], "x", "y", "z")
	if want := []string{"c", "a"}; !slices.Equal(other, want) || !slices.Equal(third, want) {
		t.Errorf("writing to one result changed others to %q, %q", other, third)
	}
	mustPlan(t, machines[1], jobs[:4], wanted(), "c", "a")
	mustChoose(t, machines[1:2], jobs[:4], wanted(), "n", "c", "a")
}

func TestCallsDoNotDependOnEarlierOnes(t *testing.T) {
	machines, jobs := stored()
	for range 3 {
		mustPlan(t, machines[1], jobs[:4], wanted(), "c", "a")
		mustNotPlan(t, machines[1], jobs, wanted())
		mustChoose(t, machines, jobs, wanted(), "a", "d")
		mustChoose(t, machines[:2], jobs, wanted(), "z", "b")
		mustNotChoose(t, machines[1:2], jobs, wanted())
	}
	machines[2].Up, jobs[4].Task.Need[0] = false, 0
	mustPlan(t, machines[1], jobs, wanted(), "e", "c", "a")
	mustNotPlan(t, machines[2], jobs, wanted())
	mustChoose(t, machines, jobs, wanted(), "z", "b")
	jobs[1].Task.Prio = 4
	mustChoose(t, machines, jobs, wanted(), "n", "e", "c", "a")
}
