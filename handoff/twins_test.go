package handoff_test

import (
	"slices"
	"strconv"
	"testing"

	"interregnum/api"
	"interregnum/gen1"
	"interregnum/handoff"
	"interregnum/oper"
)

// dice returns a function whose numbers, from 0 to below n, have no pattern, but are the same ones for the same seed.
func dice(seed uint32) func(n int) int {
	return func(n int) int {
		seed = seed*1664525 + 1013904223
		return int(seed>>8) % n
	}
}

// world tells how many names there are of each thing, how great machines are, and how often there is which kind of operation, by the kinds.
type world struct {
	nodes, queues, tasks, room int
	often                      [api.Tick + 1]int
}

var (
	// In a small world names often repeat, and most kinds of operations are rejected now and then.
	small = world{nodes: 4, queues: 2, tasks: 12, room: 8, often: [...]int{1, 2, 1, 2, 1, 10, 2, 2, 5, 8}}
	// In a crowd there is room for few of those that wait.
	crowd = world{nodes: 3, queues: 4, tasks: 60, room: 14, often: [...]int{0, 1, 1, 2, 0, 16, 1, 2, 7, 8}}
	// A great world reaches all limits.
	great = world{nodes: 24, queues: 11, tasks: 300, room: 9, often: [...]int{0, 6, 1, 4, 1, 30, 2, 2, 9, 3}}
)

func some(roll func(n int) int, first string, count int) string {
	return first + strconv.Itoa(roll(count))
}

func someLabels(roll func(n int) int) []api.Label {
	var l []api.Label
	for _, key := range []string{"a", "b"} {
		if roll(2) == 0 {
			l = append(l, api.Label{Key: key, Value: strconv.Itoa(roll(2))})
		}
	}
	return l
}

func (w world) task(roll func(n int) int) api.Task {
	k := api.Task{Name: some(roll, "t", w.tasks), Queue: some(roll, "q", w.queues), Prio: roll(5), Need: api.Res{roll(5), roll(3), roll(2)}}
	if roll(5) == 0 {
		k.Wants = someLabels(roll)
	}
	if roll(4) == 0 {
		k.Apart = some(roll, "x", 2)
	}
	if roll(3) == 0 {
		k.Gang, k.Size = some(roll, "g", 3), 2+roll(2)
	}
	return k
}

// op is any operation, which now and then is not valid.
func (w world) op(roll func(n int) int) api.Op {
	total := 0
	for _, n := range w.often {
		total += n
	}
	kind, left := 0, roll(total)
	for left >= w.often[kind] {
		left -= w.often[kind]
		kind++
	}
	switch kind {
	case 0:
		return api.Op{Kind: roll(12) - 1, Name: []string{"", "t1", "T"}[roll(3)]}
	case api.AddNode:
		return addNode(some(roll, "n", w.nodes), api.Res{roll(w.room), roll(w.room), roll(w.room)}, someLabels(roll)...)
	case api.AddQueue:
		return addQueue(some(roll, "q", w.queues), api.Res{4 + roll(30), 4 + roll(30), 4 + roll(30)})
	case api.Submit:
		return api.Op{Kind: kind, Task: w.task(roll)}
	case api.DropNode, api.Beat:
		return named(kind, some(roll, "n", w.nodes))
	case api.DropQueue:
		return named(kind, some(roll, "q", w.queues))
	case api.Cancel, api.Finish:
		return named(kind, some(roll, "t", w.tasks))
	}
	return tick()
}

// command tells where a command leads, and its error.
func (p place) command(kind int) (place, api.Errno) {
	from := map[int]int{handoff.Prepare: handoff.Calm, handoff.Cutover: handoff.Shadow, handoff.Commit: handoff.Trial, handoff.Rollback: handoff.Trial, handoff.Abort: handoff.Shadow}
	to := map[int]int{handoff.Prepare: handoff.Shadow, handoff.Cutover: handoff.Trial, handoff.Commit: handoff.Calm, handoff.Rollback: handoff.Calm, handoff.Abort: handoff.Calm}
	takesOver := kind == handoff.Cutover || kind == handoff.Rollback
	switch {
	case from[kind] == 0:
		return p, api.ErrArg
	case from[kind] != p.phase:
		return p, api.ErrPhase
	case takesOver && p.epoch == api.MaxClock:
		return p, api.ErrOver
	case takesOver:
		return place{to[kind], 3 - p.active, p.epoch + 1}, api.OK
	}
	return place{to[kind], p.active, p.epoch}, api.OK
}

// pair is a control, and one scheduler alone, from which it cannot be told apart.
type pair struct {
	t     *testing.T
	c     *handoff.Control
	alone *gen1.Scheduler
	at    place
	// commands counts those that were performed, and errors those that were not.
	commands [handoff.Abort + 1]int
	errors   [api.ErrPhase + 1]int
	acts     int
}

func (w *pair) do(o api.Op) {
	w.t.Helper()
	a, b := w.c.Do(o), w.alone.Do(o)
	if !oper.Same(a, b) {
		w.t.Fatalf("at %+v, Do(%+v) = %d, %q, not %d, %q", w.at, o, a.Err, lines(a.Acts), b.Err, lines(b.Acts))
	}
	w.acts += len(a.Acts)
	w.check()
}

func (w *pair) command(kind int) {
	w.t.Helper()
	to, want := w.at.command(kind)
	if err := w.c.Command(kind); err != want {
		w.t.Fatalf("Command(%d) = %d, not %d, at %+v", kind, err, want, w.at)
	}
	w.at = to
	if want == api.OK {
		w.commands[kind]++
	}
	w.errors[want]++
	w.check()
}

// reload lets a saved control go on.
func (w *pair) reload() {
	w.t.Helper()
	b := w.c.Save()
	if want := saved(w.t, w.at, w.alone.State()); !slices.Equal(b, want) {
		w.t.Fatalf("Save = %q, not %q", b, want)
	}
	w.c = loaded(w.t, w.at, w.alone.State())
}

func (w *pair) check() {
	w.t.Helper()
	if placeOf(w.c) != w.at || w.c.Apart() != 0 {
		w.t.Fatalf("Where = %+v, not %+v; Apart = %d", placeOf(w.c), w.at, w.c.Apart())
	}
	if s := w.c.State(); !same(s, w.alone.State()) {
		w.t.Fatalf("State = %+v, not %+v", s, w.alone.State())
	}
}

func newPair(t *testing.T) *pair {
	return &pair{t: t, c: handoff.New(), alone: gen1.New(), at: place{handoff.Calm, 1, 1}}
}

// run lets a pair do a number of things: operations, every so often commands, and now and then it goes on from what is saved.
func (w *pair) run(roll func(n int) int, where world, things, often int) {
	for range things {
		if roll(often) > 0 {
			w.do(where.op(roll))
			continue
		}
		if roll(8) == 0 {
			w.reload()
		}
		w.command(roll(8))
	}
}

func TestTransparency(t *testing.T) {
	roll := dice(222)
	acts := 0
	var commands [handoff.Abort + 1]int
	var errors [api.ErrPhase + 1]int
	for range 60 {
		for _, where := range []world{small, crowd} {
			for _, often := range []int{2, 5, 25} {
				w := newPair(t)
				w.run(roll, where, 120, often)
				acts += w.acts
				for kind, n := range w.commands {
					commands[kind] += n
				}
				for err, n := range w.errors {
					errors[err] += n
				}
			}
		}
	}
	for kind, n := range commands {
		if kind > 0 && n < 100 {
			t.Errorf("the command %d was performed %d times", kind, n)
		}
	}
	if errors[api.ErrArg] < 200 || errors[api.ErrPhase] < 200 || acts < 3000 {
		t.Errorf("only %d, %d errors, and %d acts", errors[api.ErrArg], errors[api.ErrPhase], acts)
	}
}

func TestTransparencyAtTheLimits(t *testing.T) {
	roll := dice(223)
	for range 4 {
		w := newPair(t)
		w.run(roll, great, 900, 20)
		if s := w.alone.State(); len(s.Machines) < 8 || len(s.Queues) < 6 || len(s.Jobs) < 10 {
			t.Errorf("only %d machines, %d queues, and %d jobs", len(s.Machines), len(s.Queues), len(s.Jobs))
		}
	}
}

func TestTransparencyFromAnyState(t *testing.T) {
	roll := dice(224)
	states := []api.State{rich(), {Next: 1}, {Clock: api.MaxClock - 3, Next: api.MaxClock - 5}, {Clock: api.MaxClock, Next: api.MaxClock}}
	for _, s := range states {
		for _, p := range places() {
			alone, err := gen1.Load(s)
			if err != api.OK {
				t.Fatalf("%+v is no state", s)
			}
			w := &pair{t: t, c: loaded(t, p, s), alone: alone, at: p}
			w.run(roll, small, 60, 4)
		}
	}
}

func TestEachCommandAfterEachOperation(t *testing.T) {
	// Whatever was done before: the commands, in all orders of three.
	roll := dice(225)
	for first := handoff.Prepare; first <= handoff.Abort; first++ {
		for next := handoff.Prepare; next <= handoff.Abort; next++ {
			for last := handoff.Prepare; last <= handoff.Abort; last++ {
				w := newPair(t)
				for _, kind := range []int{handoff.Prepare, first, next, last} {
					for range 25 {
						w.do(crowd.op(roll))
					}
					w.command(kind)
				}
				for range 10 {
					w.do(crowd.op(roll))
				}
			}
		}
	}
}
