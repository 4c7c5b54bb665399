package order_test

import (
	"reflect"
	"slices"
	"testing"

	"interregnum/api"
	"interregnum/order"
)

// dice returns a function whose numbers, from 0 to below n, have no pattern, but are the same ones for the same seed.
func dice(seed uint32) func(n int) int {
	return func(n int) int {
		seed = seed*1664525 + 1013904223
		return int(seed>>8) % n
	}
}

// someJobs are of few Prios, Seqs, gangs and sizes, so that all of these repeat.
func someJobs(roll func(n int) int) []api.Job {
	var jobs []api.Job
	for range roll(16) {
		j := waits(roll(3), roll(5))
		if roll(3) > 0 {
			j = in(string(rune('g'+roll(4))), roll(5), j.Task.Prio, j.Seq)
		}
		if roll(3) == 0 {
			j = bound(j)
		}
		jobs = append(jobs, j)
	}
	return jobs
}

// leads tells, by the words of the chapter, whether the job at i goes before that at k: by its place if neither is tried before the other one.
func leads(jobs []api.Job, i, k int) bool {
	a, b := jobs[i], jobs[k]
	if a.Task.Prio != b.Task.Prio {
		return a.Task.Prio > b.Task.Prio
	}
	if a.Seq != b.Seq {
		return a.Seq < b.Seq
	}
	return i < k
}

// inOrder puts each index in its place by itself.
func inOrder(jobs []api.Job, indices []int) []int {
	var sorted []int
	for _, i := range indices {
		at := 0
		for at < len(sorted) && leads(jobs, sorted[at], i) {
			at++
		}
		sorted = slices.Insert(sorted, at, i)
	}
	return sorted
}

// together returns the unit of the job at i, found by looking at all jobs, and whether that job is its first one.
func together(jobs []api.Job, i int) ([]int, bool) {
	gang := jobs[i].Task.Gang
	if jobs[i].Node != "" {
		return nil, false
	}
	if gang == "" {
		return []int{i}, true
	}
	all, waiting := 0, []int(nil)
	for k, j := range jobs {
		if j.Task.Gang != gang {
			continue
		}
		all++
		if j.Node == "" {
			waiting = append(waiting, k)
		}
	}
	waiting = inOrder(jobs, waiting)
	return waiting, waiting[0] == i && all >= jobs[i].Task.Size
}

// expected returns the units of jobs, one looked for after the other.
func expected(jobs []api.Job) [][]int {
	var firsts []int
	for i := range jobs {
		if _, ok := together(jobs, i); ok {
			firsts = append(firsts, i)
		}
	}
	var units [][]int
	for _, i := range inOrder(jobs, firsts) {
		whole, _ := together(jobs, i)
		units = append(units, whole)
	}
	return units
}

func TestUnitsOfManyJobs(t *testing.T) {
	roll := dice(41)
	single, several, left := 0, 0, 0
	for range 20000 {
		jobs := someJobs(roll)
		want := expected(jobs)
		mustUnite(t, jobs, want...)
		if t.Failed() {
			break
		}
		left += len(jobs)
		for _, u := range want {
			left -= len(u)
			if len(u) == 1 {
				single++
			} else {
				several++
			}
		}
	}
	if single < 1000 || several < 1000 || left < 1000 {
		t.Errorf("%d units of one job, %d of several, and %d jobs in none", single, several, left)
	}
}

func TestEachIndexOccursAtMostOnce(t *testing.T) {
	roll := dice(42)
	for range 5000 {
		jobs := someJobs(roll)
		seen := make([]bool, len(jobs))
		for _, u := range order.Units(jobs) {
			if len(u) == 0 {
				t.Fatalf("Units(%v) has an empty unit", jobs)
			}
			for _, i := range u {
				if i < 0 || i >= len(jobs) || seen[i] || jobs[i].Node != "" {
					t.Fatalf("Units(%v) has the index %d, which must not be there, or not again", jobs, i)
				}
				seen[i] = true
			}
		}
	}
}

func TestNoLaterUnitIsAheadOfAnEarlierOne(t *testing.T) {
	roll := dice(43)
	for range 5000 {
		jobs := someJobs(roll)
		units := order.Units(jobs)
		for i, earlier := range units {
			for _, later := range units[i+1:] {
				if order.Ahead(jobs[later[0]], jobs[earlier[0]]) {
					t.Fatalf("Units(%v) = %v, but %v is ahead of %v", jobs, units, later, earlier)
				}
			}
			for k, first := range earlier {
				for _, second := range earlier[k+1:] {
					if order.Ahead(jobs[second], jobs[first]) {
						t.Fatalf("Units(%v) = %v, but %d is ahead of %d", jobs, units, second, first)
					}
				}
			}
		}
	}
}

func TestAheadOrdersAllJobs(t *testing.T) {
	roll := dice(44)
	for range 5000 {
		jobs := []api.Job{waits(roll(3), roll(3)), waits(roll(3), roll(3)), waits(roll(3), roll(3))}
		a, b, c := jobs[0], jobs[1], jobs[2]
		same := a.Task.Prio == b.Task.Prio && a.Seq == b.Seq
		if forth, back := order.Ahead(a, b), order.Ahead(b, a); forth && back || (forth || back) == same {
			t.Fatalf("Ahead of %v and %v: %t, and %t the other way round", a, b, forth, back)
		}
		if order.Ahead(a, b) && order.Ahead(b, c) && !order.Ahead(a, c) {
			t.Fatalf("%v is ahead of %v, and that of %v, but not the first one of the last one", a, b, c)
		}
	}
}

func TestOtherFieldsDoNotMatter(t *testing.T) {
	roll := dice(45)
	for range 2000 {
		jobs := someJobs(roll)
		want := order.Units(jobs)
		for i := range jobs {
			j := &jobs[i]
			j.Task.Queue = string(rune('p' + roll(3)))
			j.Task.Name = string(rune('a' + roll(3)))
			j.Task.Need = api.Res{roll(9) - 4, roll(9), roll(9)}
			j.Task.Apart = []string{"", "x", "g"}[roll(3)]
			j.Task.Wants = make([]api.Label, roll(3))
			j.Bound = roll(5) - 1
			if j.Node != "" {
				j.Node = string(rune('k' + roll(4)))
			}
		}
		mustUnite(t, jobs, want...)
	}
}

func TestAGangHasJobsOfSeveralQueues(t *testing.T) {
	jobs := []api.Job{in("g", 3, 1, 1), bound(in("g", 3, 1, 2)), in("g", 3, 1, 3)}
	for i, queue := range []string{"", "p", "q"} {
		jobs[i].Task.Queue = queue
	}
	mustUnite(t, jobs, unit(0, 2))
}

// stored are jobs with fields of all kinds, the last one of which completes the gang.
func stored() []api.Job {
	return []api.Job{
		{Task: api.Task{Name: "a", Queue: "q", Prio: 1, Need: api.Res{1, 2, 3}, Wants: []api.Label{{Key: "k", Value: "v"}}, Apart: "x"}, Seq: 1},
		{Task: api.Task{Name: "b", Queue: "p", Prio: 2, Gang: "g", Size: 3}, Seq: 4},
		{Task: api.Task{Name: "c", Queue: "q", Prio: 9, Need: api.Res{0, 0, 1}}, Seq: 2, Node: "m", Bound: 1},
		{Task: api.Task{Name: "d", Queue: "q", Prio: 2, Gang: "g", Size: 3}, Seq: 3, Bound: 2},
		{Task: api.Task{Name: "e", Queue: "q", Prio: 5, Need: api.Res{-1, 0, 0}}, Seq: 9},
		{Task: api.Task{Name: "f", Queue: "p", Prio: 0, Gang: "g", Size: 2}, Seq: 5, Node: "n", Bound: 1},
	}
}

func TestArgumentsStayAsTheyAre(t *testing.T) {
	jobs := stored()
	for size := range len(jobs) + 1 {
		order.Units(jobs[:size])
	}
	for _, a := range jobs {
		for _, b := range jobs {
			order.Ahead(a, b)
		}
	}
	if !reflect.DeepEqual(jobs, stored()) {
		t.Errorf("the jobs became %v", jobs)
	}
}

func TestMemoryBeyondTheLengthIsNotRead(t *testing.T) {
	jobs := stored()
	mustUnite(t, jobs, unit(4), unit(3, 1), unit(0))
	mustUnite(t, jobs[:5], unit(4), unit(0))
	mustUnite(t, jobs[:4], unit(0))
	mustUnite(t, jobs[:0])
}

func TestNilIsLikeEmpty(t *testing.T) {
	mustUnite(t, nil)
	mustUnite(t, []api.Job{})
}

// spoil writes to a unit, and behind it.
func spoil(u []int) {
	for i := range u {
		u[i] = -1
	}
	_ = append(u, -1, -1, -1, -1)
}

func TestResultsAreInNewMemory(t *testing.T) {
	jobs := []api.Job{waits(1, 1), waits(1, 2), in("g", 2, 1, 3), in("g", 2, 1, 4), in("h", 2, 1, 5), in("h", 2, 1, 6), waits(1, 7), waits(1, 8)}
	want := [][]int{{0}, {1}, {2, 3}, {4, 5}, {6}, {7}}
	for spoiled := range want {
		one, other := order.Units(jobs), order.Units(jobs)
		spoil(one[spoiled])
		one[spoiled] = want[spoiled]
		if !reflect.DeepEqual(one, want) || !reflect.DeepEqual(other, want) {
			t.Errorf("writing to unit %d changed others: %v and %v", spoiled, one, other)
		}
		mustUnite(t, jobs, want...)
	}
}

func TestCallsDoNotDependOnEarlierOnes(t *testing.T) {
	jobs := stored()
	for range 3 {
		mustUnite(t, jobs, unit(4), unit(3, 1), unit(0))
		mustUnite(t, jobs[:5], unit(4), unit(0))
		mustUnite(t, jobs[1:4])
		mustLead(t, jobs[3], jobs[1])
	}
	jobs[3].Node = "n"
	mustUnite(t, jobs, unit(4), unit(1), unit(0))
	jobs[1].Task.Gang = ""
	mustUnite(t, jobs, unit(4), unit(1), unit(0))
	jobs[1].Seq, jobs[1].Task.Prio = 2, 1
	mustUnite(t, jobs, unit(4), unit(0), unit(1))
}
