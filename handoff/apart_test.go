package handoff

import (
	"slices"
	"testing"

	"interregnum/api"
)

// strange is a generation that answers something else.
type strange struct {
	generation
	change func(a *api.Answer)
}

func (g strange) Do(o api.Op) api.Answer {
	a := g.generation.Do(o)
	g.change(&a)
	return a
}

// prepared returns a control in Shadow with a machine, a queue, and two tasks that the next tick binds.
func prepared(t *testing.T) *Control {
	t.Helper()
	c := New()
	for _, o := range []api.Op{
		{Kind: api.AddNode, Node: api.Node{Name: "n", Cap: api.Res{4, 0, 0}}},
		{Kind: api.AddQueue, Queue: api.Queue{Name: "q", Quota: api.Res{9, 9, 9}}},
		{Kind: api.Submit, Task: api.Task{Name: "t", Queue: "q"}},
		{Kind: api.Submit, Task: api.Task{Name: "u", Queue: "q"}},
	} {
		if a := c.Do(o); a.Err != api.OK {
			t.Fatalf("Do(%+v) = %+v", o, a)
		}
	}
	if err := c.Command(Prepare); err != api.OK {
		t.Fatalf("Prepare: %d", err)
	}
	return c
}

var bindBoth = []api.Act{{Kind: api.Bind, Task: "t", Node: "n"}, {Kind: api.Bind, Task: "u", Node: "n"}}

func TestDifferencesAreCounted(t *testing.T) {
	for _, one := range []struct {
		what   string
		change func(a *api.Answer)
		apart  int
	}{
		{"the same", func(a *api.Answer) {}, 0},
		{"the same in other memory", func(a *api.Answer) { a.Acts = slices.Clone(a.Acts) }, 0},
		{"another error", func(a *api.Answer) { a.Err = api.ErrArg }, 1},
		{"no acts", func(a *api.Answer) { a.Acts = nil }, 1},
		{"an act less", func(a *api.Answer) { a.Acts = a.Acts[:1] }, 1},
		{"an act more", func(a *api.Answer) { a.Acts = append(a.Acts, api.Act{}) }, 1},
		{"the other order", func(a *api.Answer) { slices.Reverse(a.Acts) }, 1},
		{"another kind", func(a *api.Answer) { a.Acts[0].Kind = api.Evict }, 1},
		{"another task", func(a *api.Answer) { a.Acts[0].Task = "u" }, 1},
		{"another node", func(a *api.Answer) { a.Acts[1].Node = "m" }, 1},
	} {
		c := prepared(t)
		c.other = strange{c.other, one.change}
		if a := c.Do(api.Op{Kind: api.Tick}); a.Err != api.OK || !slices.Equal(a.Acts, bindBoth) {
			t.Errorf("%s: the active generation does not answer: %+v", one.what, a)
		}
		if n := c.Apart(); n != one.apart {
			t.Errorf("%s: Apart = %d, not %d", one.what, n, one.apart)
		}
	}
}

func TestEachDifferenceIsCountedOnce(t *testing.T) {
	c := prepared(t)
	c.other = strange{c.other, func(a *api.Answer) { a.Err++ }}
	mustCount := func(n int) {
		t.Helper()
		if got := c.Apart(); got != n {
			t.Fatalf("Apart = %d, not %d", got, n)
		}
	}
	mustCount(0)
	for n, o := range []api.Op{{Kind: api.Tick}, {Kind: api.Beat, Name: "n"}, {Kind: api.Beat, Name: "m"}, {Kind: 77}, {Kind: api.Tick}} {
		c.Do(o)
		mustCount(n + 1)
	}
	c.Command(Cutover)
	mustCount(5)
	// The one that answers something else is the active one now.
	if a := c.Do(api.Op{Kind: api.Tick}); a.Err != api.OK+1 {
		t.Errorf("Tick = %+v", a)
	}
	mustCount(6)
	if d, err := Load(c.Save()); err != api.OK || d.Apart() != 0 || d.phase != Trial {
		t.Errorf("Load: %d", err)
	}
	mustCount(6)
	c.Command(Rollback)
	c.Do(api.Op{Kind: api.Tick})
	mustCount(6)
	c.Command(Prepare)
	c.Do(api.Op{Kind: api.Tick})
	mustCount(6)
	c.Command(Abort)
	mustCount(6)
	if err := c.Command(Commit); err != api.ErrPhase {
		t.Errorf("Commit in Calm: %d", err)
	}
	mustCount(6)
}

// mustHave asks which generations a control has; 0 for none beside the active one.
func mustHave(t *testing.T, c *Control, active, other int) {
	t.Helper()
	_, isFirst := c.active.(first)
	_, isSecond := c.active.(second)
	_, besideFirst := c.other.(first)
	_, besideSecond := c.other.(second)
	if isFirst != (active == 1) || isSecond != (active == 2) || besideFirst != (other == 1) || besideSecond != (other == 2) || (c.other == nil) != (other == 0) {
		t.Errorf("the generations are %T and %T, not %d and %d", c.active, c.other, active, other)
	}
}

func TestGenerationsAreTheOnesTheyAreCalled(t *testing.T) {
	c := New()
	mustHave(t, c, 1, 0)
	for _, step := range []struct{ kind, active, other int }{
		{Prepare, 1, 2}, {Abort, 1, 0}, {Prepare, 1, 2}, {Cutover, 2, 1}, {Rollback, 1, 0}, {Prepare, 1, 2}, {Cutover, 2, 1}, {Commit, 2, 0},
		{Prepare, 2, 1}, {Abort, 2, 0}, {Prepare, 2, 1}, {Cutover, 1, 2}, {Rollback, 2, 0}, {Prepare, 2, 1}, {Cutover, 1, 2}, {Commit, 1, 0},
	} {
		if err := c.Command(step.kind); err != api.OK {
			t.Fatalf("Command(%d) = %d", step.kind, err)
		}
		mustHave(t, c, step.active, step.other)
		d, err := Load(c.Save())
		if err != api.OK {
			t.Fatalf("Load: %d", err)
		}
		mustHave(t, d, step.active, step.other)
	}
}

func TestGenerationsHaveStatesOfTheirOwn(t *testing.T) {
	c := prepared(t)
	c.active.Do(api.Op{Kind: api.Cancel, Name: "t"})
	if s, o := c.active.State(), c.other.State(); len(s.Jobs) != 1 || len(o.Jobs) != 2 {
		t.Errorf("%+v, %+v", s, o)
	}
	c.other.Do(api.Op{Kind: api.DropNode, Name: "n"})
	if s, o := c.State(), c.other.State(); len(s.Machines) != 1 || len(o.Machines) != 0 {
		t.Errorf("%+v, %+v", s, o)
	}
}

func TestFailuresOfATransferChangeNothing(t *testing.T) {
	s := api.State{
		Next:     2,
		Machines: []api.Machine{{Node: api.Node{Name: "n"}, Up: true, Until: 9}},
		Queues:   []api.Queue{{Name: "q"}},
		Jobs:     []api.Job{{Task: api.Task{Name: "t", Queue: "q"}, Seq: 1, Bound: 1 << 40}},
	}
	for _, load := range []func(s api.State) (generation, api.Errno){loadFirst, loadSecond} {
		g, err := load(s)
		if err != api.OK {
			t.Fatalf("no generation: %d", err)
		}
		c := &Control{phase: Calm, epoch: 7, active: g}
		if err := c.Command(Prepare); err != api.OK {
			t.Fatalf("Prepare: %d", err)
		}
		c.Command(Abort)
		// The task is bound more often than any state permits.
		if a := c.Do(api.Op{Kind: api.Tick}); len(a.Acts) != 1 {
			t.Fatalf("Tick = %+v", a)
		}
		if err := c.Command(Prepare); err == api.OK || c.phase != Calm || c.other != nil || c.epoch != 7 {
			t.Errorf("Prepare = %d made %+v", err, c)
		}
		if b := c.Save(); len(b) > 0 {
			t.Errorf("Save = %q", b)
		}
	}
	for _, load := range []func(s api.State) (generation, api.Errno){loadFirst, loadSecond} {
		if g, err := load(api.State{}); g != nil || err != api.ErrForm {
			t.Errorf("no state is loaded: %v, %d", g, err)
		}
	}
}
