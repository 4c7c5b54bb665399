package schema_test

import (
	"math"
	"strconv"
	"testing"

	"interregnum/api"
	"interregnum/gen1"
	"interregnum/schema"
)

// mustEncode asks for the encodings of a state, that they tell it, and that they are translated into each other.
func mustEncode(t *testing.T, s api.State, one, other string) {
	t.Helper()
	if b, err := schema.Encode1(s); string(b) != one || err != api.OK {
		t.Errorf("Encode1(%+v) = %q, %d, not %q", s, b, err, one)
	}
	if b, err := schema.Encode2(s); string(b) != other || err != api.OK {
		t.Errorf("Encode2(%+v) = %q, %d, not %q", s, b, err, other)
	}
	if x, kind, err := schema.Decode([]byte(one)); !same(x, s) || kind != 1 || err != api.OK {
		t.Errorf("Decode(%q) = %+v, %d, %d, not %+v", one, x, kind, err, s)
	}
	if x, kind, err := schema.Decode([]byte(other)); !same(x, s) || kind != 2 || err != api.OK {
		t.Errorf("Decode(%q) = %+v, %d, %d, not %+v", other, x, kind, err, s)
	}
	if b, err := schema.Translate([]byte(one)); string(b) != other || err != api.OK {
		t.Errorf("Translate(%q) = %q, %d, not %q", one, b, err, other)
	}
	if b, err := schema.Translate([]byte(other)); string(b) != one || err != api.OK {
		t.Errorf("Translate(%q) = %q, %d, not %q", other, b, err, one)
	}
}

// mustRefuse asks that bytes are not the encoding of a state.
func mustRefuse(t *testing.T, what, b string) {
	t.Helper()
	if s, kind, err := schema.Decode([]byte(b)); !isZero(s) || kind != 0 || err != api.ErrForm {
		t.Errorf("%s: Decode(%q) = %+v, %d, %d", what, b, s, kind, err)
	}
	if c, err := schema.Translate([]byte(b)); len(c) > 0 || err != api.ErrForm {
		t.Errorf("%s: Translate(%q) = %q, %d", what, b, c, err)
	}
}

func TestNewScheduler(t *testing.T) {
	mustEncode(t, gen1.New().State(), "\x01\x01\x00\x01\x01\x00\x00\x00", "\x01\x02\x00\x01\x01\x00\x00")
}

func TestMachinesAndQueues(t *testing.T) {
	s := api.State{
		Clock:    300,
		Next:     5,
		Machines: []api.Machine{{Node: api.Node{Name: "m1", Cap: api.Res{7, 0, 8}, Labels: []api.Label{a1}}, Up: true, Until: 301}, {Node: api.Node{Name: "n"}}},
		Queues:   []api.Queue{{Name: "q", Quota: api.Res{1, 2, 3}}},
	}
	const (
		head = "\x02\x01\x2c\x01\x05\x01\x02"
		m    = "\x01\x02m1\x01\x07\x00\x01\x08\x01\x01\x01\x01a\x01\x011\x01\x01\x02\x01\x2d"
		n    = "\x01\x01n\x00\x00\x00\x00\x00\x00"
		q    = "\x01\x01\x01\x01q\x01\x01\x01\x02\x01\x03"
	)
	mustEncode(t, s, "\x01\x01"+head+m+n+q+"\x00", "\x01\x02"+head+m+"\x00"+n+"\x00"+q+"\x00")
}

func TestJobs(t *testing.T) {
	s := api.State{
		Next:     9,
		Machines: []api.Machine{{Node: api.Node{Name: "m", Cap: api.Res{9, 9, 9}}, Up: true}},
		Queues:   []api.Queue{{Name: "q", Quota: api.Res{9, 9, 9}}},
		Jobs: []api.Job{
			{Task: api.Task{Name: "w", Queue: "q", Prio: 7, Apart: "x", Gang: "g", Size: 3}, Seq: 2, Bound: 256},
			{Task: api.Task{Name: "b", Queue: "q", Need: api.Res{1, 2, 3}}, Seq: 6, Node: "m", Bound: 4},
		},
	}
	const (
		head = "\x00\x01\x09\x01\x01"
		m    = "\x01\x01m\x01\x09\x01\x09\x01\x09\x00\x01\x01\x00"
		q    = "\x01\x01\x01\x01q\x01\x09\x01\x09\x01\x09"
		w    = "\x01\x01w\x01\x01q\x01\x07\x00\x00\x00\x00\x01\x01x\x01\x01g\x01\x03\x01\x02\x02\x01\x00"
		b    = "\x01\x01b\x01\x01q\x00\x01\x01\x01\x02\x01\x03\x00\x00\x00\x00\x01\x06\x01\x04"
	)
	mustEncode(t, s, "\x01\x01"+head+m+q+"\x01\x02"+w+"\x00"+b+"\x01\x01m", "\x01\x02"+head+m+"\x01\x01"+b+q+"\x01\x01"+w)
}

func TestGroupsAreOrderedBySeq(t *testing.T) {
	s := api.State{Next: 9, Queues: []api.Queue{{Name: "p"}, {Name: "q"}}}
	for _, name := range []string{"m", "n"} {
		s.Machines = append(s.Machines, api.Machine{Node: api.Node{Name: name}, Up: true})
	}
	places := []struct{ queue, node string }{{"q", "n"}, {"p", ""}, {"q", "m"}, {"q", ""}, {"p", "n"}, {"p", ""}, {"q", ""}, {"q", "m"}}
	for i, at := range places {
		s.Jobs = append(s.Jobs, api.Job{Task: api.Task{Name: "t" + strconv.Itoa(9-i), Queue: at.queue}, Seq: i + 1, Node: at.node, Bound: 1})
	}
	want := code(2, 0, 9, 2) + machineCode(s.Machines[0]) + code(2) + jobCode(s.Jobs[2]) + jobCode(s.Jobs[7]) +
		machineCode(s.Machines[1]) + code(2) + jobCode(s.Jobs[0]) + jobCode(s.Jobs[4]) + code(2) +
		queueCode(s.Queues[0]) + code(2) + jobCode(s.Jobs[1]) + jobCode(s.Jobs[5]) +
		queueCode(s.Queues[1]) + code(2) + jobCode(s.Jobs[3]) + jobCode(s.Jobs[6])
	mustEncode(t, s, first(s), want)
}

func TestSamples(t *testing.T) {
	for _, s := range samples() {
		mustEncode(t, s, first(s), second(s))
	}
}

func TestStatesThatComeOfOperations(t *testing.T) {
	roll := dice(211)
	bound, waiting := 0, 0
	for range 300 {
		s := someState(roll)
		mustEncode(t, s, first(s), second(s))
		for _, j := range s.Jobs {
			if j.Node == "" {
				waiting++
			} else {
				bound++
			}
		}
	}
	if bound < 1000 || waiting < 1000 {
		t.Errorf("%d jobs are bound, and %d wait", bound, waiting)
	}
}

// change makes one state another one.
type change struct {
	what string
	make func(s *api.State)
}

// possible are changes of the state rich that leave it valid.
func possible() []change {
	return []change{
		{"the least Clock", func(s *api.State) { s.Clock = 0 }},
		{"the greatest Clock", func(s *api.State) { s.Clock = api.MaxClock }},
		{"the least Next", func(s *api.State) { s.Next, s.Jobs = 1, nil }},
		{"the greatest Next", func(s *api.State) { s.Next = api.MaxClock }},
		{"the least Until", func(s *api.State) { s.Machines[0].Until = 0 }},
		{"the greatest Until", func(s *api.State) { s.Machines[1].Until = api.MaxClock + api.Lease }},
		{"a machine up", func(s *api.State) { s.Machines[1].Up = true }},
		{"a machine down", func(s *api.State) { s.Machines[0].Up, s.Jobs[4].Node = false, "" }},
		{"the least Seq", func(s *api.State) { s.Jobs[0].Seq = 1 }},
		{"the greatest Seq", func(s *api.State) { s.Next, s.Jobs[5].Seq = api.MaxClock, api.MaxClock-1 }},
		{"the least Bound of a waiting job", func(s *api.State) { s.Jobs[0].Bound = 0 }},
		{"the greatest Bound of a waiting job", func(s *api.State) { s.Jobs[0].Bound = 1 << 40 }},
		{"the least Bound of a bound job", func(s *api.State) { s.Jobs[2].Bound = 1 }},
		{"the greatest Bound of a bound job", func(s *api.State) { s.Jobs[2].Bound = 1 << 40 }},
		{"no machines", func(s *api.State) { s.Machines, s.Jobs = nil, s.Jobs[:1] }},
		{"no queues", func(s *api.State) { s.Queues, s.Jobs = nil, nil }},
		{"no jobs", func(s *api.State) { s.Jobs = nil }},
		{"all wait", func(s *api.State) {
			for i := range s.Jobs {
				s.Jobs[i].Node = ""
			}
		}},
		{"another machine of a name that begins with the other", func(s *api.State) { s.Machines[1].Node.Name = "k-" }},
	}
}

func TestPossibleStates(t *testing.T) {
	for _, c := range possible() {
		s := rich()
		c.make(&s)
		if !gen1.Right(s) {
			t.Fatalf("%s: %+v is not valid", c.what, s)
		}
		mustEncode(t, s, first(s), second(s))
	}
}

// machinesBut is as many machines as there can be, and some more.
func machinesBut(more int) []api.Machine {
	var l []api.Machine
	for i := range api.MaxNodes + more {
		l = append(l, api.Machine{Node: api.Node{Name: long(i)}})
	}
	return l
}

func queuesBut(more int) []api.Queue {
	var l []api.Queue
	for i := range api.MaxQueues + more {
		l = append(l, api.Queue{Name: long(i)})
	}
	return l
}

// jobsBut is as many jobs of the queue q as there can be, and some more.
func jobsBut(more int, node string) []api.Job {
	var l []api.Job
	for i := range api.MaxTasks + more {
		l = append(l, api.Job{Task: api.Task{Name: long(i), Queue: "q"}, Seq: i + 1, Node: node, Bound: 1})
	}
	return l
}

func TestAsManyAsThereCanBe(t *testing.T) {
	for _, c := range []change{
		{"machines", func(s *api.State) { s.Machines, s.Jobs = machinesBut(0), nil }},
		{"queues", func(s *api.State) { s.Queues, s.Jobs = queuesBut(0), nil }},
		{"jobs that wait", func(s *api.State) { s.Jobs = jobsBut(0, "") }},
		{"jobs on one machine", func(s *api.State) { s.Jobs = jobsBut(0, "m") }},
	} {
		s := rich()
		c.make(&s)
		mustEncode(t, s, first(s), second(s))
	}
}

// impossible are changes of the state rich after which it is not valid.
func impossible() []change {
	return []change{
		{"a negative Clock", func(s *api.State) { s.Clock = -1 }},
		{"the least number as Clock", func(s *api.State) { s.Clock = math.MinInt }},
		{"a Clock above the greatest", func(s *api.State) { s.Clock = api.MaxClock + 1 }},
		{"a Next of 0", func(s *api.State) { s.Next, s.Jobs = 0, nil }},
		{"a negative Next", func(s *api.State) { s.Next, s.Jobs = -1, nil }},
		{"a Next that is a Seq", func(s *api.State) { s.Next = 299 }},
		{"a Next above the greatest", func(s *api.State) { s.Next = api.MaxClock + 1 }},
		{"the greatest number as Next", func(s *api.State) { s.Next = math.MaxInt }},
		{"too many machines", func(s *api.State) { s.Machines, s.Jobs = machinesBut(1), nil }},
		{"machines in the wrong order", func(s *api.State) { s.Machines[0], s.Machines[1] = s.Machines[1], s.Machines[0] }},
		{"machines of one name", func(s *api.State) { s.Machines[1].Node.Name = "m" }},
		{"a node without a name", func(s *api.State) { s.Machines[0].Node.Name, s.Jobs = "", nil }},
		{"a node of a wrong name", func(s *api.State) { s.Machines[1].Node.Name = "l_" }},
		{"a node of a name that is too long", func(s *api.State) { s.Machines[1].Node.Name = "l" + long(1) }},
		{"a Cap above the greatest", func(s *api.State) { s.Machines[1].Node.Cap[2] = api.MaxRes + 1 }},
		{"labels in the wrong order", func(s *api.State) { s.Machines[1].Node.Labels = []api.Label{b2, a1} }},
		{"too many labels", func(s *api.State) {
			s.Machines[1].Node.Labels = append(longLabels(), api.Label{Key: long(4), Value: "1"})
		}},
		{"a negative Until", func(s *api.State) { s.Machines[0].Until = -1 }},
		{"an Until above the greatest", func(s *api.State) { s.Machines[0].Until = api.MaxClock + api.Lease + 1 }},
		{"too many queues", func(s *api.State) { s.Queues, s.Jobs = queuesBut(1), nil }},
		{"queues in the wrong order", func(s *api.State) { s.Queues[0], s.Queues[1] = s.Queues[1], s.Queues[0] }},
		{"queues of one name", func(s *api.State) { s.Queues[0].Name = "p" }},
		{"a Quota above the greatest", func(s *api.State) { s.Queues[2].Quota[0] = api.MaxRes + 1 }},
		{"a Quota that is used up", func(s *api.State) { s.Queues[1].Quota[2] = 2 }},
		{"too many jobs", func(s *api.State) { s.Jobs = jobsBut(1, "") }},
		{"too many jobs on a machine", func(s *api.State) { s.Jobs = jobsBut(1, "m") }},
		{"jobs in the wrong order", func(s *api.State) { s.Jobs[0], s.Jobs[5] = s.Jobs[5], s.Jobs[0] }},
		{"bound jobs in the wrong order", func(s *api.State) { s.Jobs[1], s.Jobs[2] = s.Jobs[2], s.Jobs[1] }},
		{"jobs of one Seq", func(s *api.State) { s.Jobs[2].Seq = 4 }},
		{"a Seq of 0", func(s *api.State) { s.Jobs[0].Seq = 0 }},
		{"tasks of one name", func(s *api.State) { s.Jobs[5].Task.Name = "b" }},
		{"a Prio above the greatest", func(s *api.State) { s.Jobs[5].Task.Prio = 10 }},
		{"a Size without a gang", func(s *api.State) { s.Jobs[5].Task.Size = 2 }},
		{"a gang of one", func(s *api.State) { s.Jobs[0].Task.Size = 1 }},
		{"a negative Bound", func(s *api.State) { s.Jobs[0].Bound = -1 }},
		{"a Bound above the greatest", func(s *api.State) { s.Jobs[0].Bound = 1<<40 + 1 }},
		{"a bound job that was never bound", func(s *api.State) { s.Jobs[1].Bound = 0 }},
		{"no queue of this name", func(s *api.State) { s.Jobs[0].Task.Queue = "z" }},
		{"no machine of this name", func(s *api.State) { s.Jobs[0].Node = "z" }},
		{"a Node that is no name", func(s *api.State) { s.Jobs[0].Node = "K" }},
		{"a Node that is too long", func(s *api.State) { s.Jobs[0].Node = "m" + long(0) }},
		{"bound to a machine that is down", func(s *api.State) { s.Jobs[5].Node, s.Jobs[5].Bound, s.Jobs[5].Task.Wants = "l", 1, nil }},
		{"bound to a full machine", func(s *api.State) { s.Jobs[0].Node = "m" }},
		{"bound without its labels", func(s *api.State) { s.Jobs[5].Node, s.Jobs[5].Bound = "m", 1 }},
		{"bound together that are apart", func(s *api.State) { s.Jobs[2].Task.Apart = "x" }},
	}
}

func TestImpossibleStatesHaveNoEncoding(t *testing.T) {
	for _, c := range impossible() {
		s := rich()
		c.make(&s)
		if gen1.Right(s) {
			t.Fatalf("%s: %+v is valid", c.what, s)
		}
		if b, err := schema.Encode1(s); len(b) > 0 || err != api.ErrArg {
			t.Errorf("%s: Encode1 = %q, %d", c.what, b, err)
		}
		if b, err := schema.Encode2(s); len(b) > 0 || err != api.ErrArg {
			t.Errorf("%s: Encode2 = %q, %d", c.what, b, err)
		}
		mustRefuse(t, c.what, first(s))
		// Where the second schema does not tell the change, it tells another state, and is tested elsewhere.
		if again, _, ok := decoded([]byte(second(s))); !ok {
			mustRefuse(t, c.what, second(s))
		} else if same(again, s) {
			t.Fatalf("%s: %+v is valid", c.what, again)
		}
	}
	if b, err := schema.Encode1(api.State{}); len(b) > 0 || err != api.ErrArg {
		t.Errorf("Encode1 of a state without a Next = %q, %d", b, err)
	}
	if b, err := schema.Encode2(api.State{}); len(b) > 0 || err != api.ErrArg {
		t.Errorf("Encode2 of a state without a Next = %q, %d", b, err)
	}
}
