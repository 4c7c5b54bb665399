package quota_test

import (
	"math"
	"strings"
	"testing"

	"interregnum/api"
	"interregnum/quota"
)

const most = api.MaxRes

// job makes a job of a queue that waits.
func job(name, queue string, need api.Res) api.Job {
	return api.Job{Task: api.Task{Name: name, Queue: queue, Need: need}}
}

// bound makes a job of a queue that is bound to the machine n.
func bound(name, queue string, need api.Res) api.Job {
	j := job(name, queue, need)
	j.Node, j.Bound = "n", 1
	return j
}

// needs makes jobs of the queue q, of which every other one is bound.
func needs(l ...api.Res) []api.Job {
	var jobs []api.Job
	for i, need := range l {
		if i%2 == 0 {
			jobs = append(jobs, job("t", "q", need))
		} else {
			jobs = append(jobs, bound("t", "q", need))
		}
	}
	return jobs
}

func mustUse(t *testing.T, jobs []api.Job, queue string, want api.Res, wantErr api.Errno) {
	t.Helper()
	if used, err := quota.Used(jobs, queue); used != want || err != wantErr {
		t.Errorf("Used(%v, %q) = %v, %d, not %v, %d", jobs, queue, used, err, want, wantErr)
	}
}

func mustAdmit(t *testing.T, q api.Queue, jobs []api.Job, need api.Res, want api.Errno) {
	t.Helper()
	if err := quota.Admit(q, jobs, need); err != want {
		t.Errorf("Admit(%v, %v, %v) = %d, not %d", q, jobs, need, err, want)
	}
}

func TestExamplesOfTheChapter(t *testing.T) {
	q := api.Queue{Name: "q", Quota: api.Res{5, 5, 5}}
	jobs := needs(api.Res{1, 0, 0}, api.Res{2, 0, 0})
	mustUse(t, jobs, "q", api.Res{3, 0, 0}, api.OK)
	mustAdmit(t, q, jobs, api.Res{2, 5, 5}, api.OK)
	mustAdmit(t, q, jobs, api.Res{3, 0, 0}, api.ErrQuota)
	if at := quota.Find(jobs, "z"); at != -1 {
		t.Errorf("Find of a name that no job has: %d", at)
	}
}

func TestUsedOfKnownJobs(t *testing.T) {
	for _, c := range []struct {
		needs []api.Res
		want  api.Res
		err   api.Errno
	}{
		{nil, api.Res{}, api.OK},
		{[]api.Res{{1, 2, 3}}, api.Res{1, 2, 3}, api.OK},
		{[]api.Res{{1, 0, 0}, {2, 1, 0}, {0, 0, 4}}, api.Res{3, 1, 4}, api.OK},
		{[]api.Res{{5, 5, 5}, {5, 5, 5}}, api.Res{10, 10, 10}, api.OK},
		{[]api.Res{{most, most, most}, {}}, api.Res{most, most, most}, api.OK},
		{[]api.Res{{most - 1, 0, 0}, {1, most, 0}}, api.Res{most, most, 0}, api.OK},
		{[]api.Res{{most, 0, 0}, {1, 0, 0}}, api.Res{}, api.ErrOver},
		{[]api.Res{{0, 1, 0}, {7, most, 7}, {1, 1, 1}}, api.Res{}, api.ErrOver},
		{[]api.Res{{0, 0, most}, {0, 0, 1}}, api.Res{}, api.ErrOver},
		{[]api.Res{{-1, 0, 0}}, api.Res{}, api.ErrArg},
		{[]api.Res{{3, 3, 3}, {0, -1, 0}}, api.Res{}, api.ErrArg},
		{[]api.Res{{0, 0, most + 1}, {1, 1, 1}}, api.Res{}, api.ErrArg},
		{[]api.Res{{1, 1, 1}, {math.MaxInt, 0, 0}}, api.Res{}, api.ErrArg},
		{[]api.Res{{1, 1, 1}, {math.MinInt, 0, 0}}, api.Res{}, api.ErrArg},
		// The first error is the one that is met first.
		{[]api.Res{{most, 0, 0}, {1, 0, 0}, {-1, 0, 0}}, api.Res{}, api.ErrOver},
		{[]api.Res{{most, 0, 0}, {-1, 0, 0}, {1, 0, 0}}, api.Res{}, api.ErrArg},
	} {
		mustUse(t, needs(c.needs...), "q", c.want, c.err)
	}
}

func TestUsedTakesTheJobsOfTheQueueAlone(t *testing.T) {
	jobs := []api.Job{
		job("a", "q", api.Res{1, 0, 0}),
		job("b", "Q", api.Res{0, 1, 0}),
		bound("q", "qq", api.Res{0, 0, 1}),
		bound("c", "", api.Res{2, 0, 0}),
		job("d", "p", api.Res{most, most, most}),
		bound("e", "q", api.Res{0, 2, 0}),
		bound("f", "p", api.Res{0, 0, 1}),
		job("g", "r", api.Res{-1, 0, 0}),
		job("h", "q\x00", api.Res{0, 0, 2}),
	}
	mustUse(t, jobs, "q", api.Res{1, 2, 0}, api.OK)
	mustUse(t, jobs, "Q", api.Res{0, 1, 0}, api.OK)
	mustUse(t, jobs, "qq", api.Res{0, 0, 1}, api.OK)
	mustUse(t, jobs, "", api.Res{2, 0, 0}, api.OK)
	mustUse(t, jobs, "q\x00", api.Res{0, 0, 2}, api.OK)
	mustUse(t, jobs, "p", api.Res{}, api.ErrOver)
	mustUse(t, jobs, "r", api.Res{}, api.ErrArg)
	mustUse(t, jobs, "n", api.Res{}, api.OK)
	mustUse(t, jobs, "a", api.Res{}, api.OK)
}

func TestUsedAsksForNeedsAlone(t *testing.T) {
	jobs := []api.Job{
		{Task: api.Task{Queue: "q", Prio: -3, Need: api.Res{1, 1, 1}, Gang: "g", Size: 99}, Seq: -1, Bound: -7},
		{Task: api.Task{Name: "A B", Queue: "q", Need: api.Res{2, 0, 2}, Wants: []api.Label{{}, {}}, Apart: "?"}, Node: "\n"},
		{Task: api.Task{Name: "A B", Queue: "q", Need: api.Res{0, 3, 0}}, Node: "\n"},
	}
	mustUse(t, jobs, "q", api.Res{3, 4, 3}, api.OK)
}

func TestUsedOfMoreJobsThanAStateHas(t *testing.T) {
	var jobs []api.Job
	for range 1000 {
		jobs = append(jobs, job("t", "q", api.Res{1, 2, 0}), job("t", "p", api.Res{0, 0, 1}))
	}
	mustUse(t, jobs, "q", api.Res{1000, 2000, 0}, api.OK)
	mustUse(t, jobs, "p", api.Res{0, 0, 1000}, api.OK)
}

func TestWaits(t *testing.T) {
	for _, c := range []struct {
		j    api.Job
		want bool
	}{
		{api.Job{}, true},
		{api.Job{Node: "n"}, false},
		{api.Job{Node: " "}, false},
		{api.Job{Node: "\x00"}, false},
		{api.Job{Node: strings.Repeat("n", 100)}, false},
		{api.Job{Bound: 3, Seq: 4}, true},
		{api.Job{Node: "n", Bound: 0}, false},
		{job("n", "n", api.Res{1, 1, 1}), true},
		{bound("t", "q", api.Res{}), false},
	} {
		if got := quota.Waits(c.j); got != c.want {
			t.Errorf("Waits(%v) = %t", c.j, got)
		}
	}
}

func TestFind(t *testing.T) {
	jobs := []api.Job{
		job("a", "b", api.Res{}),
		bound("c", "z", api.Res{}),
		job("a", "q", api.Res{1, 1, 1}),
		bound("", "q", api.Res{-1, 0, 0}),
		job("d", "q", api.Res{}),
		bound("c", "q", api.Res{}),
		job("last", "q", api.Res{}),
	}
	for _, c := range []struct {
		jobs []api.Job
		name string
		want int
	}{
		{jobs, "a", 0},
		{jobs, "c", 1},
		{jobs, "", 3},
		{jobs, "d", 4},
		{jobs, "last", 6},
		{jobs, "z", -1},
		{jobs, "b", -1},
		{jobs, "n", -1},
		{jobs, "A", -1},
		{jobs, "aa", -1},
		{jobs, "las", -1},
		{jobs[:1], "c", -1},
		{jobs[1:], "a", 1},
		{jobs[:0], "a", -1},
		{nil, "a", -1},
		{nil, "", -1},
	} {
		if got := quota.Find(c.jobs, c.name); got != c.want {
			t.Errorf("Find(%v, %q) = %d, not %d", c.jobs, c.name, got, c.want)
		}
	}
}

func TestAdmitKnownNeeds(t *testing.T) {
	five, all := api.Res{5, 5, 5}, api.Res{most, most, most}
	for _, c := range []struct {
		quota, used, need api.Res
		want              api.Errno
	}{
		{api.Res{}, api.Res{}, api.Res{}, api.OK},
		{five, api.Res{}, five, api.OK},
		{five, five, api.Res{}, api.OK},
		{five, api.Res{1, 2, 3}, api.Res{4, 3, 2}, api.OK},
		{five, api.Res{1, 2, 3}, api.Res{5, 0, 0}, api.ErrQuota},
		{five, api.Res{1, 2, 3}, api.Res{0, 4, 0}, api.ErrQuota},
		{five, api.Res{1, 2, 3}, api.Res{0, 0, 3}, api.ErrQuota},
		{five, five, api.Res{0, 0, 1}, api.ErrQuota},
		{api.Res{}, api.Res{}, api.Res{0, 1, 0}, api.ErrQuota},
		// A queue may have got a smaller quota than what its jobs use.
		{five, api.Res{0, 6, 0}, api.Res{}, api.ErrQuota},
		{api.Res{}, all, api.Res{}, api.ErrQuota},
		{all, api.Res{}, all, api.OK},
		{all, api.Res{most - 1, 0, 1}, api.Res{1, most, most - 1}, api.OK},
		{all, api.Res{most - 1, 0, 0}, api.Res{2, 0, 0}, api.ErrQuota},
		{all, all, api.Res{0, 0, 1}, api.ErrQuota},
		{all, all, all, api.ErrQuota},
		{five, api.Res{3, 0, 0}, api.Res{most, 0, 0}, api.ErrQuota},
	} {
		mustAdmit(t, api.Queue{Name: "q", Quota: c.quota}, needs(c.used), c.need, c.want)
		mustAdmit(t, api.Queue{Name: "q", Quota: c.quota}, needs(api.Res{}, c.used), c.need, c.want)
	}
}

// wrongQueues are not valid, each for one reason.
func wrongQueues() []api.Queue {
	return []api.Queue{
		{Name: "", Quota: api.Res{5, 5, 5}},
		{Name: "Q", Quota: api.Res{5, 5, 5}},
		{Name: "a b", Quota: api.Res{5, 5, 5}},
		{Name: strings.Repeat("q", api.MaxName+1), Quota: api.Res{5, 5, 5}},
		{Name: "q", Quota: api.Res{-1, 5, 5}},
		{Name: "q", Quota: api.Res{5, 5, most + 1}},
		{Name: "q", Quota: api.Res{5, math.MaxInt, 5}},
	}
}

// wrongNeeds are not valid.
func wrongNeeds() []api.Res {
	return []api.Res{{-1, 0, 0}, {0, -1, 0}, {0, 0, -1}, {most + 1, 0, 0}, {0, 0, most + 1}, {0, math.MaxInt, 0}, {math.MinInt, 0, 0}}
}

// wrongJobs are jobs with the errors of Used in the queue q.
func wrongJobs() map[api.Errno][]api.Job {
	return map[api.Errno][]api.Job{
		api.ErrArg:  needs(api.Res{1, 1, 1}, api.Res{0, 0, -1}, api.Res{most, most, most}),
		api.ErrOver: needs(api.Res{most, 0, 0}, api.Res{1, 0, 0}, api.Res{-1, 0, 0}),
	}
}

func TestAdmitWrongArguments(t *testing.T) {
	right := api.Queue{Name: "q", Quota: api.Res{5, 5, 5}}
	for _, q := range wrongQueues() {
		mustAdmit(t, q, nil, api.Res{1, 1, 1}, api.ErrArg)
		mustAdmit(t, q, nil, api.Res{6, 0, 0}, api.ErrArg)
	}
	for _, need := range wrongNeeds() {
		mustAdmit(t, right, nil, need, api.ErrArg)
		mustAdmit(t, right, needs(api.Res{6, 6, 6}), need, api.ErrArg)
	}
	for want, jobs := range wrongJobs() {
		mustAdmit(t, right, jobs, api.Res{}, want)
		mustAdmit(t, right, jobs, api.Res{6, 6, 6}, want)
		for _, q := range wrongQueues() {
			mustAdmit(t, q, jobs, api.Res{}, api.ErrArg)
		}
		for _, need := range wrongNeeds() {
			mustAdmit(t, right, jobs, need, api.ErrArg)
		}
	}
}

func TestAdmitOfAQueueWithTheLongestName(t *testing.T) {
	name := strings.Repeat("q", api.MaxName)
	q := api.Queue{Name: name, Quota: api.Res{2, 2, 2}}
	mustAdmit(t, q, []api.Job{job("a", name, api.Res{1, 1, 1})}, api.Res{1, 1, 1}, api.OK)
	mustAdmit(t, q, []api.Job{job("a", name, api.Res{1, 1, 1})}, api.Res{1, 2, 1}, api.ErrQuota)
}

func TestAdmitLeavesOtherQueuesOut(t *testing.T) {
	q := api.Queue{Name: "q", Quota: api.Res{5, 5, 5}}
	jobs := []api.Job{
		job("a", "p", api.Res{most, most, most}),
		bound("q", "p", api.Res{most, most, most}),
		job("b", "q", api.Res{4, 4, 4}),
		bound("c", "r", api.Res{-1, -1, -1}),
		job("d", "", api.Res{3, 3, 3}),
	}
	mustAdmit(t, q, jobs, api.Res{1, 1, 1}, api.OK)
	mustAdmit(t, q, jobs, api.Res{2, 1, 1}, api.ErrQuota)
}
