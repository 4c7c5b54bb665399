package gen2_test

import (
	"math"
	"reflect"
	"slices"
	"testing"

	"interregnum/api"
	"interregnum/gen1"
	"interregnum/gen2"
	"interregnum/oper"
)

// spoil writes to all memory of a state.
func spoil(s api.State) {
	for i := range s.Machines {
		clear(s.Machines[i].Node.Labels)
		_ = append(s.Machines[i].Node.Labels, gpu)
	}
	for i := range s.Jobs {
		clear(s.Jobs[i].Task.Wants)
		_ = append(s.Jobs[i].Task.Wants, gpu)
	}
	clear(s.Machines)
	clear(s.Queues)
	clear(s.Jobs)
	_ = append(s.Machines, api.Machine{Until: 99})
	_ = append(s.Queues, api.Queue{Name: "z"})
	_ = append(s.Jobs, api.Job{Seq: 99})
}

func TestNoCallPanics(t *testing.T) {
	extremes := []int{math.MinInt, -1, 0, 1, 1 << 40, math.MaxInt}
	for _, n := range extremes {
		for _, m := range extremes {
			s := rich()
			s.Clock, s.Next, s.Machines[1].Until, s.Jobs[0].Bound = n, m, m, n
			if g, err := gen2.Load(s); err == api.OK {
				g.Do(tick())
			}
			s = rich()
			s.Machines[0].Node.Cap, s.Jobs[0].Seq, s.Jobs[3].Task.Need = api.Res{n, m, n}, n, api.Res{m, n, m}
			if g, err := gen2.Load(s); err == api.OK {
				g.Do(tick())
			}
			w := loaded(t, rich())
			w.do(api.Op{Kind: n})
			w.do(addNode("n", api.Res{n, m, 0}))
			w.do(addQueue("r", api.Res{0, n, m}))
			w.do(submit("t", n, m, in("g", m)))
			w.do(tick())
		}
	}
	if g, err := gen2.Load(api.State{Clock: 1, Next: 1, Machines: make([]api.Machine, 100), Jobs: make([]api.Job, 100)}); g != nil || err != api.ErrForm {
		t.Errorf("Load: %d", err)
	}
}

func TestRejectedOperationsChangeNothing(t *testing.T) {
	roll := dice(208)
	g, without := gen2.New(), gen2.New()
	rejected := 0
	for range 4000 {
		before := g.State()
		o := small.op(roll)
		a := g.Do(o)
		if a.Err != api.OK {
			rejected++
			if len(a.Acts) > 0 || !same(g.State(), before) {
				t.Fatalf("Do(%+v) = %+v made %+v of %+v", o, a, g.State(), before)
			}
			continue
		}
		if b := without.Do(o); !oper.Same(a, b) {
			t.Fatalf("Do(%+v) = %+v, and %+v without what was rejected", o, a, b)
		}
	}
	if rejected < 500 {
		t.Errorf("only %d operations were rejected", rejected)
	}
}

func TestTheSameCallsReturnTheSame(t *testing.T) {
	for seed := range uint32(20) {
		roll, again, between := dice(seed), dice(seed), dice(seed+100)
		g, h, noise := gen2.New(), gen2.New(), gen2.New()
		for range 200 {
			o := crowd.op(roll)
			a := g.Do(o)
			noise.Do(crowd.op(between))
			_, _ = gen2.Load(noise.State())
			if b := h.Do(crowd.op(again)); !reflect.DeepEqual(a, b) || !reflect.DeepEqual(g.State(), h.State()) {
				t.Fatalf("Do(%+v) = %+v, and %+v", o, a, b)
			}
		}
	}
}

func TestArgumentsStayAsTheyAre(t *testing.T) {
	s := rich()
	w := loaded(t, s)
	for range 12 {
		w.all(tick(), named(api.Beat, "m"))
	}
	w.all(named(api.Cancel, "d"), named(api.DropNode, "k"), named(api.DropQueue, "o"))
	if !reflect.DeepEqual(s, rich()) {
		t.Errorf("the state became %+v", s)
	}
	node, k := roomy("n", 1, gpu, ssd), submit("t", 1, 1, wanting(gpu, ssd))
	begun(t, wide(), node, k, tick(), named(api.DropNode, "n"), named(api.Cancel, "t"))
	if l := []api.Label{gpu, ssd}; !slices.Equal(node.Node.Labels, l) || !slices.Equal(k.Task.Wants, l) {
		t.Errorf("the operations became %+v, %+v", node, k)
	}
}

func TestArgumentsAreNotRetained(t *testing.T) {
	s := rich()
	g, err := gen2.Load(s)
	spoil(s)
	w := twins{t, nil, g}
	if err != api.OK {
		t.Fatalf("Load: %d", err)
	}
	w.has(rich())
	v := loaded(t, rich())
	node, k := roomy("n", 1, gpu), submit("t", 1, 1, wanting(gpu))
	v.all(node, k)
	want := v.other.State()
	node.Node.Labels[0], k.Task.Wants[0] = ssd, ssd
	v.has(want)
	g.Do(roomy("n", 1, gpu))
	g.Do(submit("t", 1, 1, wanting(gpu)))
	w.has(want)
	if a := g.Do(tick()); !slices.Equal(lines(a.Acts), []string{"bind t n"}) {
		t.Errorf("Tick: %q", lines(a.Acts))
	}
}

func TestResultsAreInNewMemory(t *testing.T) {
	w := loaded(t, rich())
	one, other := w.other.State(), w.other.State()
	spoil(one)
	w.has(rich())
	if !same(other, rich()) {
		t.Errorf("writing to one state made the other one %+v", other)
	}
	w.must(tick())
	first := w.do(named(api.DropNode, "m"))
	before := w.other.State()
	kept := slices.Clone(first.Acts)
	clear(first.Acts)
	_ = append(first.Acts, api.Act{Kind: api.Bind, Task: "b", Node: "k"})
	w.has(before)
	second := w.do(named(api.Cancel, "a"))
	clear(first.Acts)
	if !slices.Equal(lines(kept), []string{"release b m", "release c m"}) || !slices.Equal(lines(second.Acts), []string{"release a k"}) {
		t.Errorf("the acts are %q and %q", lines(kept), lines(second.Acts))
	}
}

func TestLaterOperationsDoNotChangeEarlierResults(t *testing.T) {
	roll := dice(209)
	g := gen2.New()
	for range 500 {
		s := g.State()
		kept := gen1.Copy(s)
		answer := g.Do(crowd.op(roll))
		acts := slices.Clone(answer.Acts)
		h, err := gen2.Load(g.State())
		if err != api.OK {
			t.Fatalf("Load: %d", err)
		}
		loadedFrom := g.State()
		for range 3 {
			g.Do(crowd.op(roll))
		}
		if !reflect.DeepEqual(s, kept) || !slices.Equal(acts, answer.Acts) || !same(h.State(), loadedFrom) {
			t.Fatalf("%+v became %+v; %+v became %+v", kept, s, acts, answer.Acts)
		}
	}
}

func TestReadingChangesNothing(t *testing.T) {
	roll, again := dice(210), dice(210)
	g, quiet := gen2.New(), gen2.New()
	for range 1000 {
		g.State()
		_, _ = gen2.Load(g.State())
		if a, b := g.Do(small.op(roll)), quiet.Do(small.op(again)); !oper.Same(a, b) {
			t.Fatalf("%+v and %+v", a, b)
		}
	}
}

func TestMemoryBeyondTheLengthDoesNotMatter(t *testing.T) {
	s := rich()
	s.Machines = append(s.Machines, api.Machine{Until: -1})[:3]
	s.Queues = append(s.Queues, api.Queue{Quota: api.Res{-1, 0, 0}})[:3]
	s.Jobs = append(s.Jobs, api.Job{Seq: -1})[:4]
	s.Machines[2].Node.Labels = append(s.Machines[2].Node.Labels, gpu)[:1]
	s.Jobs[1].Task.Wants = append(s.Jobs[1].Task.Wants, gpu)[:1]
	w := loaded(t, s)
	w.all(addNode("n", api.Res{}), addQueue("r", api.Res{}), submit("t", 0, 0), tick())
	if m, q, j := s.Machines[:4][3], s.Queues[:4][3], s.Jobs[:5][4]; m.Until != -1 || q.Quota[0] != -1 || j.Seq != -1 {
		t.Errorf("what is beyond the length became %+v, %+v, %+v", m, q, j)
	}
	if l, k := s.Machines[2].Node.Labels[:2][1], s.Jobs[1].Task.Wants[:2][1]; l != gpu || k != gpu {
		t.Errorf("what is beyond the length became %+v, %+v", l, k)
	}
}

func TestNilIsLikeEmpty(t *testing.T) {
	for _, l := range [][]api.Label{nil, {}} {
		w := begun(t, wide())
		w.must(roomy("n", 1, l...))
		w.must(submit("t", 0, 1, wanting(l...)))
		w.must(tick(), "bind t n")
		s := w.other.State()
		s.Machines[0].Node.Labels, s.Jobs[0].Task.Wants = l, l
		loaded(t, s)
		beat := named(api.Beat, "n")
		beat.Node.Labels, beat.Task.Wants = l, l
		w.must(beat)
	}
}
