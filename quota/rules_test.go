package quota_test

import (
	"reflect"
	"testing"

	"interregnum/api"
	"interregnum/quota"
)

// dice returns a function whose numbers, from 0 to below n, have no pattern, but are the same ones for the same seed.
func dice(seed uint32) func(n int) int {
	return func(n int) int {
		seed = seed*1664525 + 1013904223
		return int(seed>>8) % n
	}
}

// total is what the jobs of a queue need together, as plain numbers.
func total(jobs []api.Job, queue string) api.Res {
	sum := api.Res{}
	for _, j := range jobs {
		for i, n := range j.Task.Need {
			if j.Task.Queue == queue {
				sum[i] += n
			}
		}
	}
	return sum
}

// permits tells whether a quota has room for both.
func permits(limit, used, need api.Res) bool {
	for i, n := range limit {
		if used[i]+need[i] > n {
			return false
		}
	}
	return true
}

// queues are of several sizes.
func queues() []api.Queue {
	return []api.Queue{
		{Name: "a", Quota: api.Res{20, 30, 40}},
		{Name: "b", Quota: api.Res{7, 7, 7}},
		{Name: "c", Quota: api.Res{most, 100, most}},
		{Name: "d", Quota: api.Res{0, 50, 50}},
	}
}

// someNeed is small, or now and then as great as it can be.
func someNeed(roll func(n int) int) api.Res {
	need := api.Res{roll(4), roll(4), roll(4)}
	if roll(8) == 0 {
		need[roll(api.Dims)] = roll(most + 1)
	}
	return need
}

func TestWhatIsAdmittedFitsInTotal(t *testing.T) {
	roll := dice(7)
	admitted, refused := 0, 0
	for range 50 {
		var jobs []api.Job
		for range 60 {
			q, need := queues()[roll(4)], someNeed(roll)
			want := api.OK
			if !permits(q.Quota, total(jobs, q.Name), need) {
				want = api.ErrQuota
			}
			mustAdmit(t, q, jobs, need, want)
			if want != api.OK {
				refused++
				continue
			}
			admitted++
			next := job("t", q.Name, need)
			if roll(2) == 0 {
				next = bound("t", q.Name, need)
			}
			jobs = append(jobs, next)
			if at := roll(10); at < len(jobs) {
				jobs = append(jobs[:at:at], jobs[at+1:]...)
			}
		}
		for _, q := range queues() {
			used, err := quota.Used(jobs, q.Name)
			if used != total(jobs, q.Name) || err != api.OK || !permits(q.Quota, used, api.Res{}) {
				t.Fatalf("queue %s uses %v, %d, of %v", q.Name, used, err, q.Quota)
			}
		}
	}
	if admitted < 500 || refused < 500 {
		t.Errorf("%d admitted, %d refused", admitted, refused)
	}
}

// someJobs are jobs of the queues, and of others, with needs of which some may be wrong.
func someJobs(roll func(n int) int) []api.Job {
	var jobs []api.Job
	for range roll(12) {
		need := someNeed(roll)
		if roll(15) == 0 {
			need[roll(api.Dims)] -= 4
		}
		jobs = append(jobs, job(string(rune('s'+roll(5))), string(rune('a'+roll(6))), need))
	}
	return jobs
}

// admissions are the answers of Admit for each of the queues.
func admissions(jobs []api.Job, need api.Res) [4]api.Errno {
	var answers [4]api.Errno
	for i, q := range queues() {
		answers[i] = quota.Admit(q, jobs, need)
	}
	return answers
}

func TestItDoesNotMatterWhetherAJobWaits(t *testing.T) {
	roll := dice(3)
	for range 500 {
		jobs, need := someJobs(roll), someNeed(roll)
		want := admissions(jobs, need)
		for i := range jobs {
			if roll(2) == 0 {
				jobs[i].Node = "n"
			}
			jobs[i].Bound = roll(3)
		}
		if got := admissions(jobs, need); got != want {
			t.Fatalf("%v, with %v in addition: %v, not %v", jobs, need, got, want)
		}
	}
}

func TestJobsOfOtherQueuesDoNotMatter(t *testing.T) {
	roll := dice(5)
	seen := map[api.Errno]int{}
	for range 5000 {
		jobs, need := someJobs(roll), someNeed(roll)
		for _, q := range queues() {
			var own []api.Job
			for _, j := range jobs {
				if j.Task.Queue == q.Name {
					own = append(own, j)
				}
			}
			want := quota.Admit(q, own, need)
			mustAdmit(t, q, jobs, need, want)
			seen[want]++
		}
	}
	for _, err := range []api.Errno{api.OK, api.ErrArg, api.ErrOver, api.ErrQuota} {
		if seen[err] < 5 {
			t.Errorf("%d was answered %d times", err, seen[err])
		}
	}
}

// labelled are jobs with fields of all kinds.
func labelled() []api.Job {
	return []api.Job{
		{Task: api.Task{Name: "a", Queue: "q", Prio: 1, Need: api.Res{1, 2, 3}, Wants: []api.Label{{Key: "k", Value: "v"}}, Apart: "x"}, Seq: 3},
		{Task: api.Task{Name: "b", Queue: "p", Need: api.Res{9, 9, 9}, Gang: "g", Size: 2}, Seq: 1, Node: "n", Bound: 2},
		{Task: api.Task{Name: "a", Queue: "q", Need: api.Res{0, 0, 1}}, Seq: 2, Node: "m", Bound: 1},
		{Task: api.Task{Name: "c", Queue: "q", Need: api.Res{most, most, -1}}, Seq: 4},
	}
}

func TestArgumentsStayAsTheyAre(t *testing.T) {
	jobs, q := labelled(), api.Queue{Name: "q", Quota: api.Res{5, 5, 5}}
	for size := range len(jobs) + 1 {
		quota.Used(jobs[:size], "q")
		quota.Admit(q, jobs[:size], api.Res{1, 1, 1})
		quota.Find(jobs[:size], "a")
		quota.Find(jobs[:size], "z")
	}
	for _, j := range jobs {
		quota.Waits(j)
	}
	if !reflect.DeepEqual(jobs, labelled()) {
		t.Errorf("the jobs became %v", jobs)
	}
}

func TestMemoryBeyondTheLengthIsNotRead(t *testing.T) {
	jobs, q := labelled(), api.Queue{Name: "q", Quota: api.Res{5, 5, 5}}
	mustUse(t, jobs[:3], "q", api.Res{1, 2, 4}, api.OK)
	mustUse(t, jobs[:0], "q", api.Res{}, api.OK)
	mustAdmit(t, q, jobs[:3], api.Res{4, 3, 1}, api.OK)
	mustAdmit(t, q, jobs[:2], api.Res{4, 3, 2}, api.OK)
	if at := quota.Find(jobs[:3], "c"); at != -1 {
		t.Errorf("Find beyond the length: %d", at)
	}
}

func TestNilIsLikeEmpty(t *testing.T) {
	q := api.Queue{Name: "q", Quota: api.Res{5, 5, 5}}
	for _, none := range [][]api.Job{nil, {}} {
		mustUse(t, none, "q", api.Res{}, api.OK)
		mustAdmit(t, q, none, api.Res{5, 5, 5}, api.OK)
		mustAdmit(t, q, none, api.Res{0, 6, 0}, api.ErrQuota)
		if at := quota.Find(none, ""); at != -1 {
			t.Errorf("Find of none: %d", at)
		}
	}
}

func TestCallsDoNotDependOnEarlierOnes(t *testing.T) {
	jobs, q := labelled()[:3], api.Queue{Name: "q", Quota: api.Res{5, 5, 5}}
	for range 3 {
		mustUse(t, jobs, "q", api.Res{1, 2, 4}, api.OK)
		mustAdmit(t, q, jobs, api.Res{4, 3, 1}, api.OK)
		mustAdmit(t, q, jobs, api.Res{4, 3, 2}, api.ErrQuota)
		mustUse(t, labelled(), "q", api.Res{}, api.ErrArg)
		mustAdmit(t, api.Queue{}, jobs, api.Res{}, api.ErrArg)
		jobs[0].Node, jobs[2].Node = jobs[2].Node, jobs[0].Node
	}
	jobs[0].Task.Need = api.Res{}
	mustUse(t, jobs, "q", api.Res{0, 0, 1}, api.OK)
}
