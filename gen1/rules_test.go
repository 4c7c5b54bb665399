package gen1_test

import (
	"reflect"
	"slices"
	"testing"

	"interregnum/api"
	"interregnum/gen1"
	"interregnum/oper"
)

// fault tells what of a state of a scheduler cannot be, in plain numbers; nothing if it can be.
func fault(s api.State) string {
	for i, m := range s.Machines {
		if i > 0 && s.Machines[i-1].Node.Name >= m.Node.Name {
			return "the order of the machines"
		}
		if m.Up && m.Until < s.Clock || m.Until > s.Clock+4 || m.Until < 0 {
			return "the lease of " + m.Node.Name
		}
		if what := faultOn(m, s.Jobs); what != "" {
			return what + " on " + m.Node.Name
		}
	}
	for i, q := range s.Queues {
		if i > 0 && s.Queues[i-1].Name >= q.Name {
			return "the order of the queues"
		}
		if !hasRoom(q.Quota, s.Jobs, func(j api.Job) bool { return j.Task.Queue == q.Name }) {
			return "the quota of " + q.Name
		}
	}
	for i, j := range s.Jobs {
		if i > 0 && s.Jobs[i-1].Seq >= j.Seq || j.Seq < 1 || j.Seq >= s.Next {
			return "the number of " + j.Task.Name
		}
		if slices.IndexFunc(s.Jobs, func(k api.Job) bool { return k.Task.Name == j.Task.Name }) != i {
			return "a second " + j.Task.Name
		}
		if !slices.ContainsFunc(s.Queues, func(q api.Queue) bool { return q.Name == j.Task.Queue }) {
			return "the queue of " + j.Task.Name
		}
		if j.Node != "" && (j.Bound < 1 || !slices.ContainsFunc(s.Machines, func(m api.Machine) bool { return m.Node.Name == j.Node })) {
			return "the machine of " + j.Task.Name
		}
	}
	if len(s.Machines) > 16 || len(s.Queues) > 8 || len(s.Jobs) > 48 {
		return "the length of a list"
	}
	return ""
}

// faultOn tells what cannot be of what is bound to a machine.
func faultOn(m api.Machine, jobs []api.Job) string {
	aparts := map[string]bool{}
	for _, j := range jobs {
		if j.Node != m.Node.Name {
			continue
		}
		if !m.Up {
			return "a job"
		}
		for _, want := range j.Task.Wants {
			if !slices.Contains(m.Node.Labels, want) {
				return "wants"
			}
		}
		if j.Task.Apart != "" && aparts[j.Task.Apart] {
			return "an apart"
		}
		aparts[j.Task.Apart] = true
	}
	if !hasRoom(m.Node.Cap, jobs, func(j api.Job) bool { return j.Node == m.Node.Name }) {
		return "the needs"
	}
	return ""
}

// hasRoom tells whether the needs of some jobs fit together.
func hasRoom(room api.Res, jobs []api.Job, of func(j api.Job) bool) bool {
	for i, left := range room {
		for _, j := range jobs {
			if of(j) {
				left -= j.Task.Need[i]
			}
		}
		if left < 0 {
			return false
		}
	}
	return true
}

func TestTheStateIsAlwaysValid(t *testing.T) {
	roll := dice(5)
	for range 60 {
		g := gen1.New()
		for range 150 {
			o := someOp(roll)
			a := g.Do(o)
			s := g.State()
			if what := fault(s); what != "" || !gen1.Right(s) {
				t.Fatalf("%s: Do(%+v) = %+v made %+v", what, o, a, s)
			}
		}
	}
}

func TestActsTellWhatChanged(t *testing.T) {
	roll := dice(6)
	g := gen1.New()
	for range 5000 {
		// What is bound where, by the acts alone.
		homes := map[string]string{}
		for _, j := range g.State().Jobs {
			homes[j.Task.Name] = j.Node
		}
		o := someOp(roll)
		a := g.Do(o)
		for _, act := range a.Acts {
			home, known := homes[act.Task]
			if !known || (act.Kind == api.Bind) != (home == "") || home != "" && home != act.Node || act.Node == "" {
				t.Fatalf("Do(%+v) = %+v, but %s was on %q", o, a, act.Task, home)
			}
			homes[act.Task] = ""
			if act.Kind == api.Bind {
				homes[act.Task] = act.Node
			}
		}
		for _, j := range g.State().Jobs {
			if homes[j.Task.Name] != j.Node {
				t.Fatalf("Do(%+v) = %+v, but %s is on %q", o, a, j.Task.Name, j.Node)
			}
		}
	}
}

func TestRejectedOperationsChangeNothing(t *testing.T) {
	roll := dice(7)
	g := gen1.New()
	rejected := 0
	for range 5000 {
		before := g.State()
		o := someOp(roll)
		a := g.Do(o)
		if a.Err == api.OK {
			continue
		}
		rejected++
		if len(a.Acts) > 0 || !isSame(g.State(), before) {
			t.Fatalf("Do(%+v) = %+v made %+v of %+v", o, a, g.State(), before)
		}
	}
	if rejected < 500 {
		t.Errorf("only %d operations were rejected", rejected)
	}
}

func TestWhatIsRejectedIsNotRemembered(t *testing.T) {
	roll := dice(8)
	g, other := gen1.New(), gen1.New()
	for range 3000 {
		o := someOp(roll)
		a := g.Do(o)
		if a.Err != api.OK {
			continue
		}
		if b := other.Do(o); !oper.Same(a, b) {
			t.Fatalf("Do(%+v) = %+v, and %+v without what was rejected", o, a, b)
		}
	}
	mustHave(t, other, g.State())
}

func TestAnswersDoNotDependOnOtherSchedulers(t *testing.T) {
	for seed := range uint32(20) {
		roll, again, between := dice(seed), dice(seed), dice(seed+100)
		g, h, noise := gen1.New(), gen1.New(), gen1.New()
		for range 200 {
			o := someOp(roll)
			a := g.Do(o)
			noise.Do(someOp(between))
			if b := h.Do(someOp(again)); !reflect.DeepEqual(a, b) {
				t.Fatalf("Do(%+v) = %+v, and %+v", o, a, b)
			}
			if !reflect.DeepEqual(g.State(), h.State()) {
				t.Fatalf("after Do(%+v), %+v and %+v", o, g.State(), h.State())
			}
		}
	}
}

func TestReadingChangesNothing(t *testing.T) {
	roll, again := dice(9), dice(9)
	g, quiet := gen1.New(), gen1.New()
	for range 1000 {
		gen1.Right(g.State())
		gen1.Copy(g.State())
		_, _ = gen1.Load(g.State())
		if a, b := g.Do(someOp(roll)), quiet.Do(someOp(again)); !oper.Same(a, b) {
			t.Fatalf("%+v and %+v", a, b)
		}
	}
}

func TestArgumentsStayAsTheyAre(t *testing.T) {
	s := rich()
	gen1.Right(s)
	gen1.Copy(s)
	g := loaded(t, s)
	for range 12 {
		g.Do(tick())
		g.Do(named(api.Beat, "m"))
	}
	g.Do(named(api.Cancel, "d"))
	g.Do(named(api.DropNode, "k"))
	g.Do(named(api.DropQueue, "o"))
	if !reflect.DeepEqual(s, rich()) {
		t.Errorf("the state became %+v", s)
	}
	node := addNode("n", api.Res{1, 1, 1}, api.Label{Key: "a", Value: "1"}, api.Label{Key: "b", Value: "2"})
	k := submit(wanting(task("t", 1, 1), api.Label{Key: "a", Value: "1"}, api.Label{Key: "b", Value: "2"}))
	h := gen1.New()
	for _, o := range []api.Op{node, addQueue("q", api.Res{1, 0, 0}), k, tick(), named(api.DropNode, "n"), named(api.Cancel, "t")} {
		mustDoAll(t, h, []api.Op{o})
	}
	if labels := []api.Label{{Key: "a", Value: "1"}, {Key: "b", Value: "2"}}; !slices.Equal(node.Node.Labels, labels) || !slices.Equal(k.Task.Wants, labels) {
		t.Errorf("the arguments became %+v, %+v", node, k)
	}
}

func TestArgumentsAreNotRetained(t *testing.T) {
	s := rich()
	g := loaded(t, s)
	spoil(s)
	mustHave(t, g, rich())
	node := addNode("n", api.Res{1, 1, 1}, api.Label{Key: "c", Value: "1"})
	k := submit(wanting(task("t", 1, 1), api.Label{Key: "c", Value: "1"}))
	mustDoAll(t, g, []api.Op{node, k})
	want := g.State()
	node.Node.Labels[0].Value, k.Task.Wants[0].Value = "2", "3"
	mustHave(t, g, want)
	if m, j := machine(t, g, "n"), job(t, g, "t"); m.Node.Labels[0].Value != "1" || j.Task.Wants[0].Value != "1" {
		t.Errorf("%+v, %+v", m, j)
	}
}

func TestResultsAreInNewMemory(t *testing.T) {
	g := loaded(t, rich())
	spoil(g.State())
	mustHave(t, g, rich())
	one, other := g.State(), g.State()
	spoil(one)
	if !reflect.DeepEqual(other, rich()) {
		t.Errorf("writing to one state made the other one %+v", other)
	}
	a := g.Do(named(api.DropNode, "m"))
	if !slices.Equal(lines(a.Acts), []string{"release b m", "release c m"}) {
		t.Fatalf("the acts are %q", lines(a.Acts))
	}
	before := g.State()
	clear(a.Acts)
	_ = append(a.Acts, api.Act{Kind: api.Bind, Task: "b", Node: "k"})
	mustHave(t, g, before)
	first := g.Do(named(api.DropNode, "k"))
	second := g.Do(named(api.Cancel, "a"))
	clear(second.Acts)
	if !slices.Equal(lines(first.Acts), []string{"release a k"}) {
		t.Errorf("the acts became %q", lines(first.Acts))
	}
}

func TestLaterOperationsDoNotChangeEarlierStates(t *testing.T) {
	roll := dice(10)
	g := gen1.New()
	for range 300 {
		s := g.State()
		kept := gen1.Copy(s)
		answer := g.Do(someOp(roll))
		acts := slices.Clone(answer.Acts)
		for range 5 {
			g.Do(someOp(roll))
		}
		if !reflect.DeepEqual(s, kept) || !slices.Equal(acts, answer.Acts) {
			t.Fatalf("%+v became %+v; %+v became %+v", kept, s, acts, answer.Acts)
		}
	}
}

func TestMemoryBeyondTheLengthIsNotRead(t *testing.T) {
	s := rich()
	long := gen1.Copy(s)
	long.Machines = append(long.Machines, api.Machine{Until: -1})[:3]
	long.Queues = append(long.Queues, api.Queue{Quota: api.Res{-1, 0, 0}})[:3]
	long.Jobs = append(long.Jobs, api.Job{Seq: -1})[:4]
	long.Machines[2].Node.Labels = append(long.Machines[2].Node.Labels, api.Label{})[:1]
	long.Jobs[1].Task.Wants = append(long.Jobs[1].Task.Wants, api.Label{})[:1]
	if !gen1.Right(long) {
		t.Error("what is beyond the length makes it wrong")
	}
	g := loaded(t, long)
	mustHave(t, g, rich())
	mustDoAll(t, g, []api.Op{addNode("n", api.Res{}), addQueue("r", api.Res{}), submit(task("t", 0, 0))})
	if m, q, j := long.Machines[:4][3], long.Queues[:4][3], long.Jobs[:5][4]; m.Until != -1 || q.Quota[0] != -1 || j.Seq != -1 {
		t.Errorf("what is beyond the length became %+v, %+v, %+v", m, q, j)
	}
	if l, w := long.Machines[2].Node.Labels[:2][1], long.Jobs[1].Task.Wants[:2][1]; l != (api.Label{}) || w != (api.Label{}) {
		t.Errorf("what is beyond the length became %+v, %+v", l, w)
	}
}

func TestNilIsLikeEmpty(t *testing.T) {
	for _, labels := range [][]api.Label{nil, {}} {
		g := gen1.New()
		node, k := addNode("n", api.Res{1, 0, 0}), task("t", 0, 1)
		node.Node.Labels, k.Wants = labels, labels
		mustDoAll(t, g, wide())
		mustDo(t, g, node)
		mustDo(t, g, submit(k))
		mustDo(t, g, tick(), "bind t n")
		s := g.State()
		s.Machines[0].Node.Labels, s.Jobs[0].Task.Wants = labels, labels
		mustHave(t, loaded(t, s), g.State())
		// Labels that are not used must be empty, not nil.
		beat := named(api.Beat, "n")
		beat.Node.Labels, beat.Task.Wants = labels, labels
		mustDo(t, g, beat)
	}
}
