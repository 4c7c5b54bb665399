package gen2

import (
	"maps"
	"slices"
	"testing"

	"interregnum/api"
	"interregnum/order"
)

// Fault tells which index of a scheduler does not hold what is stored, nothing if all of them do. It is for the other tests.
func Fault(g *Scheduler) string {
	for name, m := range g.machines {
		if what := g.faultOf(m); what != "" || m.Node.Name != name {
			return what + " of the machine " + name
		}
	}
	if g.labels.Len() != len(g.machines) || g.free.Len() != g.leases.Len() {
		return "the number of machines in the indexes"
	}
	count := 0
	for name, q := range g.queues {
		if !slices.Equal(q.waiting.Sorted(), g.inOrder(func(j *api.Job) bool { return j.Task.Queue == name && j.Node == "" })) {
			return "the heap of the queue " + name
		}
		if !maps.Equal(q.jobs, g.those(func(j *api.Job) bool { return j.Task.Queue == name })) {
			return "the jobs of the queue " + name
		}
		count += len(q.jobs)
	}
	if count != len(g.jobs) {
		return "the number of jobs in the queues"
	}
	gangs := map[string]int{}
	for _, j := range g.jobs {
		gangs[j.Task.Gang]++
	}
	if !maps.Equal(g.gangs, gangs) {
		return "the numbers of jobs of the gangs"
	}
	return ""
}

// faultOf tells which index does not hold what is stored of a machine.
func (g *Scheduler) faultOf(m *machine) string {
	name := m.Node.Name
	if !maps.Equal(m.jobs, g.those(func(j *api.Job) bool { return j.Node == name })) {
		return "the jobs"
	}
	if !slices.Contains(g.labels.With(m.Node.Labels), name) {
		return "the labels"
	}
	if until, ok := g.leases.At(name); ok != m.Up || ok && until != m.Until {
		return "the lease"
	}
	left := m.Node.Cap
	for _, j := range m.jobs {
		for i, n := range j.Task.Need {
			left[i] -= n
		}
	}
	if free, ok := g.free.Get(name); ok != m.Up || ok && free != left {
		return "the free resources"
	}
	return ""
}

// those returns the jobs for which a function returns true.
func (g *Scheduler) those(which func(j *api.Job) bool) jobs {
	l := maps.Clone(g.jobs)
	maps.DeleteFunc(l, func(_ string, j *api.Job) bool { return !which(j) })
	return l
}

// inOrder returns the same jobs in the order in which they are tried.
func (g *Scheduler) inOrder(which func(j *api.Job) bool) []*api.Job {
	return slices.SortedFunc(maps.Values(g.those(which)), func(a, b *api.Job) int {
		if order.Ahead(*a, *b) {
			return -1
		}
		return 1
	})
}

func TestMachinesThatAreDownAreInNoIndexOfThoseThatAreUp(t *testing.T) {
	g := New()
	g.Do(api.Op{Kind: api.AddNode, Node: api.Node{Name: "n", Cap: api.Res{4, 0, 0}}})
	if g.free.Len() != 1 || g.leases.Len() != 1 || g.labels.Len() != 1 {
		t.Error("the machine is not in the indexes")
	}
	for range api.Lease + 1 {
		g.Do(api.Op{Kind: api.Tick})
	}
	if g.free.Len() != 0 || g.leases.Len() != 0 || g.labels.Len() != 1 {
		t.Error("the indexes do not tell that the machine is down")
	}
	g.Do(api.Op{Kind: api.Beat, Name: "n"})
	if g.free.Len() != 1 || g.leases.Len() != 1 || g.labels.Len() != 1 {
		t.Error("the indexes do not tell that the machine is up")
	}
}

func TestNothingIsKeptOfWhatIsNoLongerThere(t *testing.T) {
	g := New()
	gpu := []api.Label{{Key: "gpu", Value: "1"}}
	for range 3 {
		g.Do(api.Op{Kind: api.AddQueue, Queue: api.Queue{Name: "q", Quota: api.Res{9, 9, 9}}})
		g.Do(api.Op{Kind: api.AddNode, Node: api.Node{Name: "n", Cap: api.Res{4, 0, 0}, Labels: gpu}})
		for _, name := range []string{"a", "b"} {
			g.Do(api.Op{Kind: api.Submit, Task: api.Task{Name: name, Queue: "q", Need: api.Res{2, 0, 0}, Gang: "g", Size: 2}})
		}
		g.Do(api.Op{Kind: api.Submit, Task: api.Task{Name: "c", Queue: "q", Need: api.Res{1, 0, 0}}})
		if a := g.Do(api.Op{Kind: api.Tick}); len(a.Acts) != 2 || len(g.gangs) != 2 || g.queues["q"].waiting.Len() != 1 {
			t.Fatalf("Tick: %+v, and the gangs are %v", a, g.gangs)
		}
		g.Do(api.Op{Kind: api.Finish, Name: "a"})
		g.Do(api.Op{Kind: api.Cancel, Name: "b"})
		g.Do(api.Op{Kind: api.Cancel, Name: "c"})
		if q := g.queues["q"]; len(q.jobs) != 0 || q.waiting.Len() != 0 || len(g.machines["n"].jobs) != 0 {
			t.Errorf("the queue still has %d jobs, of which %d wait", len(q.jobs), q.waiting.Len())
		}
		g.Do(api.Op{Kind: api.DropNode, Name: "n"})
		g.Do(api.Op{Kind: api.DropQueue, Name: "q"})
		if len(g.machines)+len(g.queues)+len(g.jobs)+len(g.gangs)+g.labels.Len()+g.free.Len()+g.leases.Len() != 0 {
			t.Errorf("something is left: %+v", g)
		}
	}
}
