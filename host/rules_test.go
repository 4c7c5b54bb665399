package host_test

import (
	"math"
	"reflect"
	"slices"
	"testing"

	"interregnum/api"
	"interregnum/gen1"
	"interregnum/handoff"
	"interregnum/host"
	"interregnum/oper"
)

// spoil writes to all memory of a state.
func spoil(s api.State) {
	for i := range s.Machines {
		clear(s.Machines[i].Node.Labels)
		_ = append(s.Machines[i].Node.Labels, b2)
	}
	for i := range s.Jobs {
		clear(s.Jobs[i].Task.Wants)
		_ = append(s.Jobs[i].Task.Wants, b2)
	}
	clear(s.Machines)
	clear(s.Queues)
	clear(s.Jobs)
	_ = append(s.Machines, api.Machine{Until: 99})
	_ = append(s.Queues, api.Queue{Name: "z"})
	_ = append(s.Jobs, api.Job{Seq: 99})
}

func TestNoHost(t *testing.T) {
	var zero host.Host
	for _, h := range []*host.Host{nil, &zero, {}} {
		// Nothing that is called makes it a host that is up.
		for range 2 {
			mustBeDown(t, h, 0)
			for _, writes := range []int{math.MinInt, -1, 0, 1, math.MaxInt} {
				h.Arm(writes, 64)
				h.Arm(0, writes)
				for _, part := range []int{math.MinInt, 0, 64, math.MaxInt} {
					if err := h.Recover(writes, part); err != api.ErrState {
						t.Errorf("Recover(%d, %d) = %d", writes, part, err)
					}
				}
			}
			h.Crash()
			mustBeDown(t, h, 0)
		}
	}
}

func TestNoCallPanics(t *testing.T) {
	extremes := []int{math.MinInt, -1, 0, 1, 64, 1 << 40, math.MaxInt}
	h := host.New()
	mustDo(t, h, addQueue("q", api.Res{9, 9, 9}), addNode("m", api.Res{9, 9, 9}))
	for _, n := range extremes {
		for _, m := range extremes {
			h.Do(api.Op{Kind: n})
			h.Do(addNode("n", api.Res{n, m, 0}))
			h.Do(addQueue("r", api.Res{0, n, m}))
			h.Do(submit("t", n, m))
			h.Command(n)
			h.Arm(n, m)
			h.Do(tick())
			h.Arm(n, m)
			h.Save()
			h.Crash()
			h.Arm(n, m)
			h.Recover(n, m)
			h.Recover(m, n)
			h.Recover(-1, 0)
			if h.Down() {
				t.Fatalf("with %d and %d, it stays down", n, m)
			}
		}
	}
}

func TestRejectedOperationsChangeNothing(t *testing.T) {
	roll := dice(235)
	h, without := host.New(), host.New()
	rejected := 0
	for range 2000 {
		before := h.State()
		if kind := roll(40); kind < 8 {
			at := placeOf(h)
			err := h.Command(kind)
			if err != api.OK && placeOf(h) != at {
				t.Fatalf("Command(%d) = %d led from %+v to %+v", kind, err, at, placeOf(h))
			}
			if err == api.OK {
				without.Command(kind)
			}
		}
		o := small.op(roll)
		a := h.Do(o)
		if a.Err != api.OK {
			rejected++
			if len(a.Acts) > 0 || !same(h.State(), before) {
				t.Fatalf("Do(%+v) = %+v made %+v of %+v", o, a, h.State(), before)
			}
			continue
		}
		if b := without.Do(o); !oper.Same(a, b) || placeOf(h) != placeOf(without) {
			t.Fatalf("Do(%+v) = %+v, and %+v without what was rejected", o, a, b)
		}
	}
	if rejected < 300 || h.Epoch() < 20 {
		t.Errorf("only %d operations were rejected, in %d epochs", rejected, h.Epoch())
	}
}

func TestArgumentsStayAsTheyAre(t *testing.T) {
	for _, kinds := range [][]int{nil, {1}, {1, 2}} {
		h := host.New()
		mustCommand(t, h, api.OK, kinds...)
		node, k := addNode("n", api.Res{1, 1, 1}, a1, b2), submit("t", 1, 1, a1, b2)
		mustDo(t, h, node, addQueue("q", api.Res{1, 0, 0}), k, tick())
		h.Crash()
		mustRecover(t, h, -1, 0, api.OK)
		mustDo(t, h, named(api.DropNode, "n"), named(api.Cancel, "t"))
		if l := []api.Label{a1, b2}; !slices.Equal(node.Node.Labels, l) || !slices.Equal(k.Task.Wants, l) {
			t.Errorf("the operations became %+v, %+v", node, k)
		}
	}
}

func TestArgumentsAreNotRetained(t *testing.T) {
	for _, kinds := range [][]int{nil, {1}, {1, 2}} {
		h := host.New()
		mustCommand(t, h, api.OK, kinds...)
		node, k := addNode("n", api.Res{1, 1, 1}, a1), submit("t", 1, 1, a1)
		mustDo(t, h, node, addQueue("q", api.Res{1, 0, 0}), k)
		want := h.State()
		node.Node.Labels[0], k.Task.Wants[0] = b2, b2
		for range 3 {
			if s := h.State(); !same(s, want) || s.Machines[0].Node.Labels[0] != a1 || s.Jobs[0].Task.Wants[0] != a1 {
				t.Errorf("the state became %+v", s)
			}
			mustSave(t, h, api.OK)
			h.Crash()
			mustRecover(t, h, -1, 0, api.OK)
		}
	}
}

func TestResultsAreInNewMemory(t *testing.T) {
	for _, kinds := range [][]int{nil, {1}, {1, 2}} {
		h := host.New()
		mustDo(t, h, addNode("n", api.Res{4, 0, 0}, a1, b2), addQueue("q", api.Res{9, 9, 9}), submit("b", 1, 1, a1), submit("c", 1, 1, a1, b2), tick())
		mustCommand(t, h, api.OK, kinds...)
		one, other := h.State(), h.State()
		want := gen1.Copy(one)
		spoil(one)
		if !same(other, want) || !same(h.State(), want) {
			t.Fatalf("writing to one state made the other one %+v, and that of the host %+v", other, h.State())
		}
		a := h.Do(named(api.DropNode, "n"))
		kept := slices.Clone(a.Acts)
		want = h.State()
		clear(a.Acts)
		_ = append(a.Acts, api.Act{Kind: api.Bind, Task: "b", Node: "n"})
		if !slices.Equal(lines(kept), []string{"release b n", "release c n"}) || !same(h.State(), want) {
			t.Errorf("the acts are %q; the state became %+v", lines(kept), h.State())
		}
		h.Crash()
		spoil(h.State())
		if s := h.State(); !same(s, api.State{Next: 1}) {
			t.Errorf("State = %+v while it is down", s)
		}
		mustRecover(t, h, -1, 0, api.OK)
		if !same(h.State(), want) {
			t.Errorf("the state became %+v", h.State())
		}
	}
}

func TestLaterCallsDoNotChangeEarlierResults(t *testing.T) {
	roll := dice(236)
	h := host.New()
	for range 200 {
		s, answer := h.State(), h.Do(crowd.op(roll))
		keptState, keptActs := gen1.Copy(s), slices.Clone(answer.Acts)
		for range 3 {
			h.Do(crowd.op(roll))
			h.Command(roll(7))
		}
		h.Crash()
		mustRecover(t, h, -1, 0, api.OK)
		mustSave(t, h, api.OK)
		if !reflect.DeepEqual(s, keptState) || !slices.Equal(answer.Acts, keptActs) {
			t.Fatalf("%+v became %+v; %+v became %+v", keptState, s, keptActs, answer.Acts)
		}
	}
}

func TestTheSameCallsReturnTheSame(t *testing.T) {
	for seed := range uint32(6) {
		roll, again, between := dice(seed), dice(seed), dice(seed+100)
		a, b, noise := newTwins(t), newTwins(t), newTwins(t)
		for range 150 {
			a.step(roll, crowd)
			noise.step(between, crowd)
			b.step(again, crowd)
			if placeOf(a.h) != placeOf(b.h) || a.h.Down() != b.h.Down() || a.h.Left() != b.h.Left() || a.acts != b.acts || !reflect.DeepEqual(a.h.State(), b.h.State()) {
				t.Fatalf("%+v and %+v", a.h.State(), b.h.State())
			}
		}
	}
}

func TestReadingChangesNothing(t *testing.T) {
	roll, again := dice(237), dice(237)
	h, quiet := host.New(), host.New()
	for range 600 {
		h.State()
		h.Where()
		h.Epoch()
		h.Left()
		h.Down()
		a, b := h.Do(small.op(roll)), quiet.Do(small.op(again))
		err, too := h.Command(roll(20)), quiet.Command(again(20))
		if !oper.Same(a, b) || err != too || placeOf(h) != placeOf(quiet) || h.Left() != quiet.Left() {
			t.Fatalf("%+v and %+v; %d and %d", a, b, err, too)
		}
	}
}

func TestMemoryBeyondTheLengthDoesNotMatter(t *testing.T) {
	labels := []api.Label{a1, b2}
	node, k := addNode("n", api.Res{1, 0, 0}, labels[:1]...), submit("t", 1, 1, labels[:1]...)
	for _, kinds := range [][]int{nil, {1}, {1, 2}} {
		h := host.New()
		mustCommand(t, h, api.OK, kinds...)
		mustDo(t, h, node, addQueue("q", api.Res{9, 9, 9}), k)
		h.Crash()
		mustRecover(t, h, -1, 0, api.OK)
		mustDecide(t, h, tick(), "bind t n")
		if s := h.State(); len(s.Machines[0].Node.Labels) != 1 || labels[1] != b2 {
			t.Errorf("the labels are %+v; beyond them is %+v", s.Machines[0].Node.Labels, labels[1])
		}
	}
}

func TestNilIsLikeEmpty(t *testing.T) {
	for _, l := range [][]api.Label{nil, {}} {
		h := host.New()
		mustCommand(t, h, api.OK, handoff.Prepare)
		mustDo(t, h, addNode("n", api.Res{1, 0, 0}, l...), addQueue("q", api.Res{9, 9, 9}), submit("t", 1, 1, l...))
		beat := named(api.Beat, "n")
		beat.Node.Labels, beat.Task.Wants = l, l
		mustDecide(t, h, beat)
		h.Crash()
		mustRecover(t, h, -1, 0, api.OK)
		mustDecide(t, h, tick(), "bind t n")
		mustLeave(t, h, room-1-6)
	}
}
