package gen1_test

import (
	"math"
	"strconv"
	"strings"
	"testing"

	"interregnum/api"
	"interregnum/gen1"
)

// change makes one state another one.
type change struct {
	what string
	make func(s *api.State)
}

func mustBeRight(t *testing.T, base func() api.State, changes []change) {
	t.Helper()
	for _, c := range changes {
		s := base()
		c.make(&s)
		if !gen1.Right(s) {
			t.Errorf("%s: %+v is not valid", c.what, s)
		}
		if g, err := gen1.Load(s); err != api.OK || !isSame(g.State(), s) {
			t.Errorf("%s: Load: %d", c.what, err)
		}
	}
}

func mustBeWrong(t *testing.T, base func() api.State, changes []change) {
	t.Helper()
	for _, c := range changes {
		s := base()
		c.make(&s)
		if gen1.Right(s) {
			t.Errorf("%s: %+v is valid", c.what, s)
		}
		if g, err := gen1.Load(s); g != nil || err != api.ErrForm {
			t.Errorf("%s: Load: %d", c.what, err)
		}
	}
}

func TestRight(t *testing.T) {
	if !gen1.Right(blank()) || !gen1.Right(rich()) {
		t.Error("these are valid")
	}
	if gen1.Right(api.State{}) {
		t.Error("a state without a Next is valid")
	}
}

func TestClockAndNextOfAState(t *testing.T) {
	mustBeRight(t, blank, []change{
		{"the least Clock and Next", func(s *api.State) { s.Clock, s.Next = 0, 1 }},
		{"the greatest Clock", func(s *api.State) { s.Clock = api.MaxClock }},
		{"the greatest Next", func(s *api.State) { s.Next = api.MaxClock }},
	})
	mustBeRight(t, rich, []change{
		{"a Clock above all Until", func(s *api.State) { s.Clock = 1000 }},
		{"a Next far above", func(s *api.State) { s.Next = api.MaxClock }},
	})
	mustBeWrong(t, rich, []change{
		{"a Clock of -1", func(s *api.State) { s.Clock = -1 }},
		{"a Clock above the greatest", func(s *api.State) { s.Clock = api.MaxClock + 1 }},
		{"a Next above the greatest", func(s *api.State) { s.Next = api.MaxClock + 1 }},
		{"the least number", func(s *api.State) { s.Clock = math.MinInt }},
		{"the greatest number", func(s *api.State) { s.Next = math.MaxInt }},
	})
	mustBeWrong(t, blank, []change{
		{"a Next of 0", func(s *api.State) { s.Next = 0 }},
		{"a Next of -1", func(s *api.State) { s.Next = -1 }},
		{"the least number", func(s *api.State) { s.Next = math.MinInt }},
	})
}

// machinesBut is as many machines as there can be, and some more.
func machinesBut(more int) []api.Machine {
	var l []api.Machine
	for i := range api.MaxNodes + more {
		l = append(l, api.Machine{Node: api.Node{Name: "n" + strconv.Itoa(100+i)}})
	}
	return l
}

func TestMachinesOfAState(t *testing.T) {
	mustBeRight(t, rich, []change{
		{"an Until of 0", func(s *api.State) { s.Machines[0].Until = 0 }},
		{"the greatest Until", func(s *api.State) { s.Machines[0].Until = api.MaxClock + api.Lease }},
		{"a machine without jobs that is up", func(s *api.State) { s.Machines[1].Up = true }},
		{"as many as there can be", func(s *api.State) { s.Machines, s.Jobs = machinesBut(0), nil }},
		{"none", func(s *api.State) { s.Machines, s.Jobs = nil, nil }},
		{"names of which one begins with the other", func(s *api.State) { s.Machines[1].Node.Name = "k-" }},
	})
	mustBeWrong(t, rich, []change{
		{"an Until of -1", func(s *api.State) { s.Machines[1].Until = -1 }},
		{"an Until above the greatest", func(s *api.State) { s.Machines[1].Until = api.MaxClock + api.Lease + 1 }},
		{"too many", func(s *api.State) { s.Machines, s.Jobs = machinesBut(1), nil }},
		{"an empty name", func(s *api.State) { s.Machines[0].Node.Name, s.Jobs = "", nil }},
		{"no name", func(s *api.State) { s.Machines[1].Node.Name = "l_" }},
		{"a Cap of -1", func(s *api.State) { s.Machines[1].Node.Cap[1] = -1 }},
		{"a Cap above the greatest", func(s *api.State) { s.Machines[1].Node.Cap[2] = most + 1 }},
		{"labels in the wrong order", func(s *api.State) {
			s.Machines[1].Node.Labels = []api.Label{{Key: "b", Value: "1"}, {Key: "a", Value: "1"}}
		}},
		{"two of one name", func(s *api.State) { s.Machines[1].Node.Name = "k" }},
		{"the last two of one name", func(s *api.State) { s.Machines[1].Node.Name = "m" }},
		{"two in the wrong order", func(s *api.State) { s.Machines[0], s.Machines[1] = s.Machines[1], s.Machines[0] }},
		{"the last two in the wrong order", func(s *api.State) { s.Machines[1], s.Machines[2] = s.Machines[2], s.Machines[1] }},
	})
}

func TestOrderOfListsWithoutJobs(t *testing.T) {
	node := func(name string) api.Machine {
		return api.Machine{Node: api.Node{Name: name}}
	}
	queue := func(name string) api.Queue {
		return api.Queue{Name: name}
	}
	mustBeRight(t, blank, []change{
		{"ascending machines", func(s *api.State) {
			s.Machines = []api.Machine{node("0"), node("a"), node("a-"), node("a0"), node("b")}
		}},
		{"ascending queues", func(s *api.State) {
			s.Queues = []api.Queue{queue("0"), queue("a"), queue("a-"), queue("a0"), queue("b")}
		}},
	})
	mustBeWrong(t, blank, []change{
		{"descending machines", func(s *api.State) { s.Machines = []api.Machine{node("b"), node("a")} }},
		{"machines of one name", func(s *api.State) { s.Machines = []api.Machine{node("a"), node("a")} }},
		{"a machine before its beginning", func(s *api.State) { s.Machines = []api.Machine{node("a"), node("b-"), node("b")} }},
		{"descending queues", func(s *api.State) { s.Queues = []api.Queue{queue("b"), queue("a")} }},
		{"queues of one name", func(s *api.State) { s.Queues = []api.Queue{queue("a"), queue("a")} }},
		{"a queue before its beginning", func(s *api.State) { s.Queues = []api.Queue{queue("a"), queue("b-"), queue("b")} }},
	})
}

// queuesBut is as many queues as there can be, and some more.
func queuesBut(more int) []api.Queue {
	var l []api.Queue
	for i := range api.MaxQueues + more {
		l = append(l, api.Queue{Name: "q" + strconv.Itoa(100+i)})
	}
	return l
}

func TestQueuesOfAState(t *testing.T) {
	mustBeRight(t, rich, []change{
		{"as many as there can be", func(s *api.State) { s.Queues, s.Jobs = queuesBut(0), nil }},
		{"none", func(s *api.State) { s.Queues, s.Jobs = nil, nil }},
		{"the greatest quota", func(s *api.State) { s.Queues[0].Quota = api.Res{most, most, most} }},
	})
	mustBeWrong(t, rich, []change{
		{"too many", func(s *api.State) { s.Queues, s.Jobs = queuesBut(1), nil }},
		{"an empty name", func(s *api.State) { s.Queues[0].Name = "" }},
		{"no name", func(s *api.State) { s.Queues[0].Name = "O" }},
		{"a Quota of -1", func(s *api.State) { s.Queues[0].Quota[0] = -1 }},
		{"a Quota above the greatest", func(s *api.State) { s.Queues[2].Quota[2] = most + 1 }},
		{"two of one name", func(s *api.State) { s.Queues[0].Name = "p" }},
		{"two in the wrong order", func(s *api.State) { s.Queues[0], s.Queues[1] = s.Queues[1], s.Queues[0] }},
		{"the last two in the wrong order", func(s *api.State) { s.Queues[1], s.Queues[2] = s.Queues[2], s.Queues[1] }},
	})
}

// jobsBut is as many jobs as there can be, and some more, that wait.
func jobsBut(more int) []api.Job {
	var l []api.Job
	for i := range api.MaxTasks + more {
		l = append(l, api.Job{Task: task("t"+strconv.Itoa(i), 0, 0), Seq: i + 1})
	}
	return l
}

func TestJobsOfAState(t *testing.T) {
	mustBeRight(t, rich, []change{
		{"as many as there can be", func(s *api.State) { s.Jobs, s.Next = jobsBut(0), api.MaxTasks+1 }},
		{"none", func(s *api.State) { s.Jobs = nil }},
		{"the least Seq", func(s *api.State) { s.Jobs[0].Seq = 1 }},
		{"the greatest Seq", func(s *api.State) { s.Next, s.Jobs[3].Seq = api.MaxClock, api.MaxClock-1 }},
		{"one that was never bound", func(s *api.State) { s.Jobs[0].Bound = 0 }},
		{"the greatest Bound", func(s *api.State) { s.Jobs[0].Bound = 1 << 40 }},
		{"the greatest Bound of a bound one", func(s *api.State) { s.Jobs[1].Bound = 1 << 40 }},
	})
	mustBeWrong(t, rich, []change{
		{"too many", func(s *api.State) { s.Jobs, s.Next = jobsBut(1), 1000 }},
		{"a Seq of 0", func(s *api.State) { s.Jobs[0].Seq = 0 }},
		{"a Seq of -1", func(s *api.State) { s.Jobs[0].Seq = -1 }},
		{"a Seq of Next", func(s *api.State) { s.Jobs[3].Seq = s.Next }},
		{"a Next of the last Seq", func(s *api.State) { s.Next = 8 }},
		{"a Next of 1", func(s *api.State) { s.Next = 1 }},
		{"two of one Seq", func(s *api.State) { s.Jobs[0].Seq = s.Jobs[1].Seq }},
		{"the last two of one Seq", func(s *api.State) { s.Jobs[3].Seq = s.Jobs[2].Seq }},
		{"two in the wrong order", func(s *api.State) { s.Jobs[0], s.Jobs[1] = s.Jobs[1], s.Jobs[0] }},
		{"the last two in the wrong order", func(s *api.State) { s.Jobs[2], s.Jobs[3] = s.Jobs[3], s.Jobs[2] }},
		{"two of one name", func(s *api.State) { s.Jobs[0].Task.Name = "b" }},
		{"the first and the last one of one name", func(s *api.State) { s.Jobs[3].Task.Name = "d" }},
		{"a Bound of -1", func(s *api.State) { s.Jobs[0].Bound = -1 }},
		{"a Bound above the greatest", func(s *api.State) { s.Jobs[0].Bound = 1<<40 + 1 }},
		{"a Bound above the greatest of a bound one", func(s *api.State) { s.Jobs[1].Bound = 1<<40 + 1 }},
	})
}

func TestTasksOfAState(t *testing.T) {
	mustBeWrong(t, rich, []change{
		{"an empty name", func(s *api.State) { s.Jobs[0].Task.Name = "" }},
		{"a long name", func(s *api.State) { s.Jobs[0].Task.Name = strings.Repeat("d", api.MaxName+1) }},
		{"a Prio of -1", func(s *api.State) { s.Jobs[0].Task.Prio = -1 }},
		{"a Prio above the greatest", func(s *api.State) { s.Jobs[3].Task.Prio = api.MaxPrio + 1 }},
		{"a Need of -1", func(s *api.State) { s.Jobs[0].Task.Need[1] = -1 }},
		{"a Need above the greatest", func(s *api.State) { s.Jobs[0].Task.Need[1] = most + 1 }},
		{"two wants of one key", func(s *api.State) { s.Jobs[0].Task.Wants = []api.Label{{Key: "a", Value: "1"}, {Key: "a", Value: "2"}} }},
		{"no name to be apart from", func(s *api.State) { s.Jobs[0].Task.Apart = "-" }},
		{"a gang of one", func(s *api.State) { s.Jobs[0].Task.Size = 1 }},
		{"a great gang", func(s *api.State) { s.Jobs[0].Task.Size = api.MaxGang + 1 }},
		{"a size without a gang", func(s *api.State) { s.Jobs[1].Task.Size = 2 }},
	})
}

func TestQuotasOfAState(t *testing.T) {
	mustBeRight(t, rich, []change{
		{"the quota is used by one that waits", func(s *api.State) { s.Jobs[0].Task.Need = api.Res{4, 9, 8} }},
		{"a job of a queue without quota", func(s *api.State) { s.Jobs[0].Task.Queue, s.Jobs[0].Task.Need = "o", api.Res{} }},
		{"the greatest need that waits", func(s *api.State) {
			s.Queues[0].Quota, s.Jobs[0].Task.Queue, s.Jobs[0].Task.Need = api.Res{most, most, most}, "o", api.Res{most, most, most}
		}},
	})
	mustBeWrong(t, rich, []change{
		{"a queue that does not exist", func(s *api.State) { s.Jobs[0].Task.Queue = "pp" }},
		{"no queues", func(s *api.State) { s.Queues = nil }},
		{"no queue for the last one", func(s *api.State) { s.Jobs[3].Task.Queue = "r" }},
		{"the first queue is gone", func(s *api.State) { s.Jobs[0].Task.Queue, s.Queues = "o", s.Queues[1:] }},
		{"the last queue is gone", func(s *api.State) { s.Queues = s.Queues[:2] }},
		{"too much of what waits", func(s *api.State) { s.Jobs[0].Task.Need = api.Res{5, 0, 0} }},
		{"too much of what is bound", func(s *api.State) { s.Queues[1].Quota[2] = 2 }},
		{"too much of the first queue", func(s *api.State) { s.Jobs[0].Task.Queue = "o" }},
		// What is used then cannot be added up.
		{"far too much", func(s *api.State) {
			s.Queues[2].Quota, s.Jobs[0].Task.Need = api.Res{most, most, most}, api.Res{most, most, most}
		}},
	})
}

// double is two jobs of two queues, of which each could be bound to the machine n alone.
func double() api.State {
	return api.State{
		Next:     3,
		Machines: []api.Machine{{Node: api.Node{Name: "n", Cap: api.Res{most, most, most}}, Up: true}},
		Queues:   []api.Queue{{Name: "p", Quota: api.Res{most, most, most}}, {Name: "q", Quota: api.Res{most, most, most}}},
		Jobs: []api.Job{
			{Task: api.Task{Name: "a", Queue: "p", Need: api.Res{most, most, most}}, Seq: 1, Node: "n", Bound: 1},
			{Task: api.Task{Name: "b", Queue: "q"}, Seq: 2, Node: "n", Bound: 1},
		},
	}
}

func TestWhatIsBoundFitsInAState(t *testing.T) {
	mustBeRight(t, double, []change{
		{"all that fits", func(s *api.State) {}},
		{"what waits beside it", func(s *api.State) {
			s.Jobs[1].Task.Need, s.Jobs[1].Node, s.Jobs[1].Bound = api.Res{most, most, most}, "", 0
		}},
	})
	mustBeWrong(t, double, []change{
		{"one more of the first", func(s *api.State) { s.Jobs[1].Task.Need[0] = 1 }},
		{"one more of the last", func(s *api.State) { s.Jobs[1].Task.Need[2] = 1 }},
		{"far too much", func(s *api.State) { s.Jobs[1].Task.Need = api.Res{most, most, most} }},
		{"one less on the machine", func(s *api.State) { s.Machines[0].Node.Cap[1]-- }},
	})
	mustBeWrong(t, rich, []change{
		{"too much on the first machine", func(s *api.State) { s.Machines[0].Node.Cap[0] = 4 }},
		{"too much on the last machine", func(s *api.State) { s.Machines[2].Node.Cap[2] = 2 }},
	})
}

func TestMachinesOfBoundJobsOfAState(t *testing.T) {
	mustBeRight(t, rich, []change{
		{"one more that is bound", func(s *api.State) { s.Jobs[0].Task.Need, s.Jobs[0].Node = api.Res{0, 1, 0}, "m" }},
		{"one that waits again", func(s *api.State) { s.Jobs[3].Node, s.Machines[0].Up = "", false }},
	})
	mustBeWrong(t, rich, []change{
		{"a machine that does not exist", func(s *api.State) { s.Jobs[3].Node = "ka" }},
		{"a machine before all", func(s *api.State) { s.Jobs[3].Node = "a" }},
		{"a machine after all", func(s *api.State) { s.Jobs[3].Node = "z" }},
		{"no machines", func(s *api.State) { s.Machines = nil }},
		{"no name of a machine", func(s *api.State) { s.Jobs[3].Node = " " }},
		{"a machine that is down", func(s *api.State) { s.Machines[2].Up = false }},
		{"another machine that is down", func(s *api.State) { s.Jobs[0].Task.Need, s.Jobs[0].Node = api.Res{}, "l" }},
		{"bound, but never", func(s *api.State) { s.Jobs[1].Bound = 0 }},
		{"the last one bound, but never", func(s *api.State) { s.Jobs[3].Bound = 0 }},
	})
}

func TestWantsOfBoundJobsOfAState(t *testing.T) {
	mustBeRight(t, rich, []change{
		{"more labels", func(s *api.State) {
			s.Machines[2].Node.Labels = []api.Label{{Key: "a", Value: "5"}, {Key: "b", Value: "2"}, {Key: "c", Value: "5"}}
		}},
		{"wants of one that waits", func(s *api.State) { s.Jobs[0].Task.Wants = []api.Label{{Key: "z", Value: "1"}} }},
		{"less wants", func(s *api.State) { s.Jobs[3].Task.Wants = s.Jobs[3].Task.Wants[1:] }},
	})
	mustBeWrong(t, rich, []change{
		{"no labels", func(s *api.State) { s.Machines[2].Node.Labels = nil }},
		{"another value", func(s *api.State) { s.Machines[2].Node.Labels[0].Value = "3" }},
		{"another key", func(s *api.State) { s.Machines[2].Node.Labels[0].Key = "c" }},
		{"a label too few", func(s *api.State) { s.Machines[0].Node.Labels = s.Machines[0].Node.Labels[:1] }},
		{"a want of the second one there", func(s *api.State) { s.Jobs[2].Task.Wants = []api.Label{{Key: "a", Value: "1"}} }},
	})
}

func TestApartsOfBoundJobsOfAState(t *testing.T) {
	mustBeRight(t, rich, []change{
		{"one Apart where none is bound", func(s *api.State) { s.Jobs[0].Task.Apart = "x" }},
		{"no Apart", func(s *api.State) { s.Jobs[1].Task.Apart, s.Jobs[2].Task.Apart = "", "" }},
		{"an Apart beside none", func(s *api.State) { s.Jobs[1].Task.Apart = "" }},
		{"one Apart on two machines", func(s *api.State) { s.Jobs[3].Task.Apart = "y" }},
		{"a Gang of that name", func(s *api.State) { s.Jobs[2].Task.Apart, s.Jobs[2].Task.Gang, s.Jobs[2].Task.Size = "", "x", 2 }},
	})
	mustBeWrong(t, rich, []change{
		{"one Apart on one machine", func(s *api.State) { s.Jobs[2].Task.Apart = "x" }},
		{"another Apart on one machine", func(s *api.State) { s.Jobs[1].Task.Apart = "y" }},
		{"one Apart behind another one", func(s *api.State) {
			s.Jobs[0].Task.Need, s.Jobs[0].Task.Apart, s.Jobs[0].Node = api.Res{}, "y", "m"
		}},
		{"one Apart behind none", func(s *api.State) {
			s.Jobs[0].Task.Need, s.Jobs[0].Task.Apart, s.Jobs[0].Node = api.Res{}, "y", "m"
			s.Jobs[1].Task.Apart = ""
		}},
	})
}

func TestRightEndsForLongLists(t *testing.T) {
	const many = 1 << 20
	for _, s := range []api.State{
		{Next: 1, Machines: make([]api.Machine, many)},
		{Next: 1, Queues: make([]api.Queue, many)},
		{Next: api.MaxClock, Jobs: make([]api.Job, many)},
	} {
		if gen1.Right(s) {
			t.Error("a long list is valid")
		}
	}
}
