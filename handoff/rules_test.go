package handoff_test

import (
	"math"
	"reflect"
	"slices"
	"testing"

	"interregnum/api"
	"interregnum/gen1"
	"interregnum/handoff"
	"interregnum/oper"
)

// spoil writes to all memory of a state.
func spoil(s api.State) {
	for i := range s.Machines {
		clear(s.Machines[i].Node.Labels)
		_ = append(s.Machines[i].Node.Labels, b2)
	}
	for i := range s.Jobs {
		clear(s.Jobs[i].Task.Wants)
		_ = append(s.Jobs[i].Task.Wants, b2)
	}
	clear(s.Machines)
	clear(s.Queues)
	clear(s.Jobs)
	_ = append(s.Machines, api.Machine{Until: 99})
	_ = append(s.Queues, api.Queue{Name: "z"})
	_ = append(s.Jobs, api.Job{Seq: 99})
}

func TestNoControl(t *testing.T) {
	var zero handoff.Control
	for _, c := range []*handoff.Control{nil, &zero, {}} {
		// Nothing that is called makes it a control.
		for range 2 {
			for _, o := range []api.Op{tick(), {}, {Kind: 10}, addQueue("q", api.Res{1, 1, 1}), addNode("n", api.Res{}), named(api.Beat, "n"), named(api.Tick, "n")} {
				if a := c.Do(o); a.Err != api.ErrArg || len(a.Acts) > 0 {
					t.Errorf("Do(%+v) = %+v", o, a)
				}
			}
			for kind := handoff.Prepare; kind <= handoff.Abort; kind++ {
				if err := c.Command(kind); err != api.ErrPhase {
					t.Errorf("Command(%d) = %d", kind, err)
				}
			}
			for _, kind := range noCommands {
				if err := c.Command(kind); err != api.ErrPhase {
					t.Errorf("Command(%d) = %d", kind, err)
				}
			}
			mustBe(t, c, place{})
			if s := c.State(); !same(s, api.State{Next: 1}) {
				t.Errorf("State = %+v", s)
			}
			if b := c.Save(); len(b) > 0 {
				t.Errorf("Save = %q", b)
			}
		}
	}
}

func TestNoCallPanics(t *testing.T) {
	extremes := []int{math.MinInt, -1, 0, 1, 1 << 40, math.MaxInt}
	for _, path := range paths {
		c := handoff.New()
		mustDo(t, c, addQueue("q", api.Res{9, 9, 9}), addNode("m", api.Res{9, 9, 9}))
		mustCommand(t, c, path.kinds...)
		for _, n := range extremes {
			for _, m := range extremes {
				c.Do(api.Op{Kind: n})
				c.Do(addNode("n", api.Res{n, m, 0}))
				c.Do(addQueue("r", api.Res{0, n, m}))
				c.Do(submit("t", n, m))
				c.Do(tick())
			}
		}
		if c.Apart() != 0 || placeOf(c) != path.to {
			t.Errorf("Apart = %d at %+v", c.Apart(), placeOf(c))
		}
	}
	roll := dice(226)
	for range 2000 {
		b := make([]byte, roll(40))
		for i := range b {
			b[i] = byte(roll(1 + roll(256)))
		}
		mustAgree(t, b)
		mustAgree(t, append([]byte{1, byte(1 + roll(3)), 1, byte(1 + roll(2)), 1, byte(1 + roll(9))}, b...))
	}
}

func TestRejectedOperationsChangeNothing(t *testing.T) {
	roll := dice(227)
	c, without := handoff.New(), handoff.New()
	rejected := 0
	for range 3000 {
		if roll(9) == 0 {
			kind := roll(7)
			if err := c.Command(kind); err != without.Command(kind) {
				t.Fatalf("Command(%d) = %d", kind, err)
			}
		}
		before := c.Save()
		o := small.op(roll)
		a := c.Do(o)
		if a.Err != api.OK {
			rejected++
			if len(a.Acts) > 0 || !slices.Equal(c.Save(), before) {
				t.Fatalf("Do(%+v) = %+v made %q of %q", o, a, c.Save(), before)
			}
			continue
		}
		if b := without.Do(o); !oper.Same(a, b) {
			t.Fatalf("Do(%+v) = %+v, and %+v without what was rejected", o, a, b)
		}
	}
	if rejected < 500 || placeOf(c).epoch < 20 {
		t.Errorf("only %d operations were rejected, in %d epochs", rejected, placeOf(c).epoch)
	}
}

func TestArgumentsStayAsTheyAre(t *testing.T) {
	for _, path := range paths {
		c := handoff.New()
		mustCommand(t, c, path.kinds...)
		node, k := addNode("n", api.Res{1, 1, 1}, a1, b2), submit("t", 1, 1, a1, b2)
		mustDo(t, c, node, addQueue("q", api.Res{1, 0, 0}), k, tick(), named(api.DropNode, "n"), named(api.Cancel, "t"))
		if l := []api.Label{a1, b2}; !slices.Equal(node.Node.Labels, l) || !slices.Equal(k.Task.Wants, l) {
			t.Errorf("the operations became %+v, %+v", node, k)
		}
	}
	for _, p := range places() {
		b := saved(t, p, rich())
		for _, part := range [][]byte{b, b[:len(b)-1], b[1:]} {
			kept := slices.Clone(part)
			_, _ = handoff.Load(part)
			if !slices.Equal(part, kept) {
				t.Errorf("%q became %q", kept, part)
			}
		}
	}
}

func TestArgumentsAreNotRetained(t *testing.T) {
	for _, path := range paths {
		c := handoff.New()
		mustCommand(t, c, path.kinds...)
		node, k := addNode("n", api.Res{1, 1, 1}, a1), submit("t", 1, 1, a1)
		mustDo(t, c, node, addQueue("q", api.Res{1, 0, 0}), k)
		want := c.State()
		node.Node.Labels[0], k.Task.Wants[0] = b2, b2
		if s := c.State(); !same(s, want) || s.Machines[0].Node.Labels[0] != a1 || s.Jobs[0].Task.Wants[0] != a1 {
			t.Errorf("the state became %+v", s)
		}
		for kind := handoff.Prepare; kind <= handoff.Abort; kind++ {
			c.Command(kind)
		}
		if s := c.State(); !same(s, want) {
			t.Errorf("the state became %+v", s)
		}
	}
	for _, p := range places() {
		b := saved(t, p, rich())
		c, err := handoff.Load(b)
		clear(b)
		if err != api.OK || !same(c.State(), rich()) || !slices.Equal(c.Save(), saved(t, p, rich())) {
			t.Fatalf("the control became %q", c.Save())
		}
		c.Command(handoff.Cutover)
		c.Command(handoff.Rollback)
		if !same(c.State(), rich()) {
			t.Errorf("the state became %+v", c.State())
		}
	}
}

func TestResultsAreInNewMemory(t *testing.T) {
	for _, p := range []place{{handoff.Calm, 1, 1}, {handoff.Calm, 2, 1}, {handoff.Shadow, 1, 1}, {handoff.Shadow, 2, 1}, {handoff.Trial, 1, 1}, {handoff.Trial, 2, 1}} {
		c := loaded(t, p, rich())
		mustKeep := func() {
			t.Helper()
			if !same(c.State(), rich()) || !slices.Equal(c.Save(), saved(t, p, rich())) {
				t.Fatalf("the control became %q", c.Save())
			}
		}
		one, other := c.State(), c.State()
		spoil(one)
		mustKeep()
		if !same(other, rich()) {
			t.Errorf("writing to one state made the other one %+v", other)
		}
		b, d := c.Save(), c.Save()
		clear(b)
		_ = append(b, 1)
		mustKeep()
		if !slices.Equal(d, saved(t, p, rich())) {
			t.Errorf("writing to what was saved made the other one %q", d)
		}
		first := c.Do(named(api.DropNode, "m"))
		kept, before := slices.Clone(first.Acts), c.Save()
		clear(first.Acts)
		_ = append(first.Acts, api.Act{Kind: api.Bind, Task: "b", Node: "k"})
		if !slices.Equal(lines(kept), []string{"release b m", "release c m"}) || !slices.Equal(c.Save(), before) {
			t.Errorf("the acts are %q; the control became %q", lines(kept), c.Save())
		}
		second := c.Do(named(api.Cancel, "a"))
		clear(first.Acts)
		if !slices.Equal(lines(second.Acts), []string{"release a k"}) {
			t.Errorf("the acts are %q", lines(second.Acts))
		}
		if c.Apart() != 0 {
			t.Errorf("Apart = %d", c.Apart())
		}
	}
}

func TestLaterCallsDoNotChangeEarlierResults(t *testing.T) {
	roll := dice(228)
	c := handoff.New()
	for range 400 {
		s, b, answer := c.State(), c.Save(), c.Do(crowd.op(roll))
		keptState, keptBytes, keptActs := gen1.Copy(s), slices.Clone(b), slices.Clone(answer.Acts)
		d, err := handoff.Load(c.Save())
		if err != api.OK {
			t.Fatalf("Load: %d", err)
		}
		loadedFrom := c.Save()
		for range 3 {
			c.Do(crowd.op(roll))
			c.Command(roll(7))
		}
		if !reflect.DeepEqual(s, keptState) || !slices.Equal(b, keptBytes) || !slices.Equal(answer.Acts, keptActs) || !slices.Equal(d.Save(), loadedFrom) {
			t.Fatalf("%q became %q; %+v became %+v", keptBytes, b, keptActs, answer.Acts)
		}
	}
}

func TestTheSameCallsReturnTheSame(t *testing.T) {
	for seed := range uint32(20) {
		roll, again, between := dice(seed), dice(seed), dice(seed+100)
		c, d, noise := handoff.New(), handoff.New(), handoff.New()
		for range 150 {
			o, kind := crowd.op(roll), roll(12)
			a, err := c.Do(o), c.Command(kind)
			noise.Do(crowd.op(between))
			noise.Command(between(6))
			_, _ = handoff.Load(noise.Save())
			p, other := crowd.op(again), again(12)
			if b, too := d.Do(p), d.Command(other); !reflect.DeepEqual(a, b) || err != too || placeOf(c) != placeOf(d) {
				t.Fatalf("Do(%+v) = %+v, and %+v; Command(%d) = %d, and %d", o, a, b, kind, err, too)
			}
			if !reflect.DeepEqual(c.State(), d.State()) || !slices.Equal(c.Save(), d.Save()) {
				t.Fatalf("after Do(%+v), %q and %q", o, c.Save(), d.Save())
			}
		}
	}
}

func TestReadingChangesNothing(t *testing.T) {
	roll, again := dice(229), dice(229)
	c, quiet := handoff.New(), handoff.New()
	for range 800 {
		c.State()
		c.Where()
		c.Apart()
		_, _ = handoff.Load(c.Save())
		a, b := c.Do(small.op(roll)), quiet.Do(small.op(again))
		err, too := c.Command(roll(20)), quiet.Command(again(20))
		if !oper.Same(a, b) || err != too || placeOf(c) != placeOf(quiet) {
			t.Fatalf("%+v and %+v; %d and %d", a, b, err, too)
		}
	}
}

func TestMemoryBeyondTheLengthDoesNotMatter(t *testing.T) {
	for _, p := range places() {
		code := saved(t, p, rich())
		b := append(slices.Clone(code), 1, 2, 3, 4)
		if c, err := handoff.Load(b[:len(code)]); err != api.OK || !slices.Equal(c.Save(), code) {
			t.Fatalf("Load with more beyond: %d", err)
		}
		if !slices.Equal(b[len(code):], []byte{1, 2, 3, 4}) {
			t.Errorf("what is beyond became %v", b[len(code):])
		}
		mustRefuse(t, "without the last byte", b[:len(code)-1:len(code)])
	}
	labels := []api.Label{a1, b2}
	node, k := addNode("n", api.Res{1, 0, 0}, labels[:1]...), submit("t", 1, 1, labels[:1]...)
	for _, path := range paths {
		c := handoff.New()
		mustCommand(t, c, path.kinds...)
		mustDo(t, c, node, addQueue("q", api.Res{9, 9, 9}), k)
		mustDecide(t, c, tick(), "bind t n")
		if s := c.State(); len(s.Machines[0].Node.Labels) != 1 || labels[1] != b2 {
			t.Errorf("the labels are %+v; beyond them is %+v", s.Machines[0].Node.Labels, labels[1])
		}
	}
}

func TestNilIsLikeEmpty(t *testing.T) {
	for _, b := range [][]byte{nil, {}} {
		mustRefuse(t, "nothing", b)
	}
	for _, l := range [][]api.Label{nil, {}} {
		for _, path := range paths {
			c := handoff.New()
			mustCommand(t, c, path.kinds...)
			mustDo(t, c, addNode("n", api.Res{1, 0, 0}, l...), addQueue("q", api.Res{9, 9, 9}), submit("t", 1, 1, l...))
			beat := named(api.Beat, "n")
			beat.Node.Labels, beat.Task.Wants = l, l
			mustDecide(t, c, beat)
			mustDecide(t, c, tick(), "bind t n")
			mustBe(t, c, path.to)
		}
	}
}
