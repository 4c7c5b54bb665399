package host_test

import (
	"math"
	"slices"
	"strings"
	"sync"
	"testing"

	"interregnum/api"
	"interregnum/handoff"
	"interregnum/host"
	"interregnum/oper"
)

var (
	a1 = api.Label{Key: "a", Value: "1"}
	b2 = api.Label{Key: "b", Value: "2"}
)

// noCommands are numbers that are no commands.
var noCommands = []int{math.MinInt, -2, -1, 0, 6, 7, 255, 257, 258, 1<<32 + 1, math.MaxInt}

// room is the number of blocks of a journal for its snapshot and its records.
const room = 511

func tick() api.Op {
	return api.Op{Kind: api.Tick}
}

func named(kind int, name string) api.Op {
	return api.Op{Kind: kind, Name: name}
}

func addNode(name string, capacity api.Res, labels ...api.Label) api.Op {
	return api.Op{Kind: api.AddNode, Node: api.Node{Name: name, Cap: capacity, Labels: labels}}
}

func addQueue(name string, quota api.Res) api.Op {
	return api.Op{Kind: api.AddQueue, Queue: api.Queue{Name: name, Quota: quota}}
}

// submit submits a task of the queue q that needs some of the first resource.
func submit(name string, prio, need int, wants ...api.Label) api.Op {
	return api.Op{Kind: api.Submit, Task: api.Task{Name: name, Queue: "q", Prio: prio, Need: api.Res{need, 0, 0}, Wants: wants}}
}

// long submits a task whose record has three blocks.
func long(name string) api.Op {
	var l []api.Label
	for _, key := range []string{"a", "b", "c", "d"} {
		l = append(l, api.Label{Key: strings.Repeat(key, 16), Value: strings.Repeat("v", 16)})
	}
	return submit(name, 1, 1, l...)
}

// lines tells acts as their lines.
func lines(acts []api.Act) []string {
	var l []string
	for _, a := range acts {
		l = append(l, oper.Text(a))
	}
	return l
}

func sameMachine(a, b api.Machine) bool {
	m, n := a.Node, b.Node
	return a.Up == b.Up && a.Until == b.Until && m.Name == n.Name && m.Cap == n.Cap && slices.Equal(m.Labels, n.Labels)
}

func sameJob(a, b api.Job) bool {
	k, l := a.Task, b.Task
	return a.Seq == b.Seq && a.Node == b.Node && a.Bound == b.Bound && k.Name == l.Name && k.Queue == l.Queue && k.Prio == l.Prio &&
		k.Need == l.Need && slices.Equal(k.Wants, l.Wants) && k.Apart == l.Apart && k.Gang == l.Gang && k.Size == l.Size
}

// same tells whether two states are the same one; a nil list is like an empty one.
func same(a, b api.State) bool {
	return a.Clock == b.Clock && a.Next == b.Next && slices.EqualFunc(a.Machines, b.Machines, sameMachine) &&
		slices.Equal(a.Queues, b.Queues) && slices.EqualFunc(a.Jobs, b.Jobs, sameJob)
}

// place is what Where returns.
type place struct{ phase, active, epoch int }

func placeOf(h *host.Host) place {
	phase, active, epoch := h.Where()
	return place{phase, active, epoch}
}

// mustBe asks that a host is up, and somewhere.
func mustBe(t *testing.T, h *host.Host, p place) {
	t.Helper()
	if at := placeOf(h); at != p || h.Epoch() != p.epoch || h.Down() {
		t.Fatalf("Where = %+v, not %+v; Epoch = %d, Down = %t", at, p, h.Epoch(), h.Down())
	}
}

// mustBeDown asks that a host is down, and answers as the document says, with the epoch that was known.
func mustBeDown(t *testing.T, h *host.Host, epoch int) {
	t.Helper()
	if !h.Down() || placeOf(h) != (place{}) || h.Left() != 0 || h.Epoch() != epoch {
		t.Fatalf("Down = %t, Where = %+v, Left = %d, Epoch = %d, not %d", h.Down(), placeOf(h), h.Left(), h.Epoch(), epoch)
	}
	if s := h.State(); !same(s, api.State{Next: 1}) {
		t.Fatalf("State = %+v while it is down", s)
	}
	for _, o := range []api.Op{tick(), {}, addQueue("q", api.Res{1, 1, 1}), named(api.Beat, "")} {
		if a := h.Do(o); a.Err != api.ErrLost || len(a.Acts) > 0 {
			t.Fatalf("Do(%+v) = %+v while it is down", o, a)
		}
	}
	for _, kind := range append([]int{1, 2, 3, 4, 5}, noCommands...) {
		if err := h.Command(kind); err != api.ErrLost {
			t.Fatalf("Command(%d) = %d while it is down", kind, err)
		}
	}
	if err := h.Save(); err != api.ErrLost || !h.Down() || h.Epoch() != epoch {
		t.Fatalf("Save = %d, Down = %t, Epoch = %d", err, h.Down(), h.Epoch())
	}
}

// mustDo asks that operations are performed, whatever they decide.
func mustDo(t *testing.T, h *host.Host, ops ...api.Op) {
	t.Helper()
	for _, o := range ops {
		if a := h.Do(o); a.Err != api.OK {
			t.Fatalf("Do(%+v) = %+v", o, a)
		}
	}
}

// mustAnswer asks for the error of an operation, which then decides nothing.
func mustAnswer(t *testing.T, h *host.Host, o api.Op, want api.Errno) {
	t.Helper()
	if a := h.Do(o); a.Err != want || len(a.Acts) > 0 {
		t.Fatalf("Do(%+v) = %+v, not %d", o, a, want)
	}
}

// mustDecide asks that an operation decides something.
func mustDecide(t *testing.T, h *host.Host, o api.Op, want ...string) {
	t.Helper()
	if a := h.Do(o); a.Err != api.OK || !slices.Equal(lines(a.Acts), want) {
		t.Fatalf("Do(%+v) = %d, %q, not %q", o, a.Err, lines(a.Acts), want)
	}
}

func mustCommand(t *testing.T, h *host.Host, want api.Errno, kinds ...int) {
	t.Helper()
	for _, kind := range kinds {
		if err := h.Command(kind); err != want {
			t.Fatalf("Command(%d) = %d, not %d, at %+v", kind, err, want, placeOf(h))
		}
	}
}

func mustSave(t *testing.T, h *host.Host, want api.Errno) {
	t.Helper()
	if err := h.Save(); err != want {
		t.Fatalf("Save = %d, not %d", err, want)
	}
}

func mustRecover(t *testing.T, h *host.Host, writes, part int, want api.Errno) {
	t.Helper()
	if err := h.Recover(writes, part); err != want {
		t.Fatalf("Recover(%d, %d) = %d, not %d", writes, part, err, want)
	}
	if h.Down() != (want == api.ErrLost) {
		t.Fatalf("after Recover(%d, %d) = %d, Down = %t", writes, part, want, h.Down())
	}
}

// mustLeave asks how many blocks the journal has left.
func mustLeave(t *testing.T, h *host.Host, want int) {
	t.Helper()
	if n := h.Left(); n != want {
		t.Fatalf("Left = %d, not %d", n, want)
	}
}

func TestNew(t *testing.T) {
	h := host.New()
	mustBe(t, h, place{handoff.Calm, 1, 1})
	// The snapshot of a new control has one block.
	mustLeave(t, h, room-1)
	if s := h.State(); !same(s, api.State{Next: 1}) {
		t.Errorf("State = %+v", s)
	}
	mustRecover(t, h, -1, 0, api.ErrState)
	mustBe(t, h, place{handoff.Calm, 1, 1})
}

func TestExamples(t *testing.T) {
	h := host.New()
	mustDo(t, h, addQueue("q", api.Res{}))
	h.Crash()
	mustRecover(t, h, -1, 0, api.OK)
	mustAnswer(t, h, addQueue("q", api.Res{}), api.ErrDup)
	mustRecover(t, h, -1, 0, api.ErrState)
	mustCommand(t, h, api.OK, handoff.Prepare)
	h.Arm(0, 64)
	mustCommand(t, h, api.ErrLost, handoff.Cutover)
	mustBeDown(t, h, 1)
	mustRecover(t, h, -1, 0, api.OK)
	mustBe(t, h, place{handoff.Trial, 2, 2})
}

func TestOperations(t *testing.T) {
	h := host.New()
	mustDo(t, h, addNode("n", api.Res{4, 0, 0}, a1), addQueue("q", api.Res{9, 9, 9}), submit("a", 1, 3, a1))
	mustDecide(t, h, tick(), "bind a n")
	mustDo(t, h, submit("h", 5, 2))
	mustDecide(t, h, tick(), "evict a n", "bind h n")
	mustAnswer(t, h, named(api.Beat, "m"), api.ErrNone)
	mustAnswer(t, h, addNode("n", api.Res{}), api.ErrDup)
	mustAnswer(t, h, submit("z", 0, 5), api.ErrQuota)
	mustAnswer(t, h, named(api.DropQueue, "q"), api.ErrBusy)
	mustAnswer(t, h, named(api.Finish, "a"), api.ErrState)
	mustDecide(t, h, named(api.DropNode, "n"), "release h n")
	want := api.State{Clock: 2, Next: 3, Queues: []api.Queue{{Name: "q", Quota: api.Res{9, 9, 9}}}, Jobs: []api.Job{
		{Task: submit("a", 1, 3, a1).Task, Seq: 1, Bound: 1},
		{Task: submit("h", 5, 2).Task, Seq: 2, Bound: 1},
	}}
	for range 2 {
		if s := h.State(); !same(s, want) {
			t.Errorf("State = %+v, not %+v", s, want)
		}
		mustBe(t, h, place{handoff.Calm, 1, 1})
		h.Crash()
		mustRecover(t, h, -1, 0, api.OK)
	}
}

func TestOperationsThatAreNotValidAreNotJournaled(t *testing.T) {
	h := host.New()
	left := h.Left()
	// Nothing is written, so nothing is interrupted.
	h.Arm(0, 0)
	for _, o := range []api.Op{{}, {Kind: -1}, {Kind: 10}, {Kind: math.MaxInt}, named(api.Tick, "n"), named(api.Beat, ""), named(api.Beat, "A"), addNode("n", api.Res{-1, 0, 0}), addQueue("", api.Res{}), submit("t", 10, 0)} {
		mustAnswer(t, h, o, api.ErrArg)
	}
	for _, kind := range noCommands {
		mustCommand(t, h, api.ErrArg, kind)
	}
	mustLeave(t, h, left)
	mustBe(t, h, place{handoff.Calm, 1, 1})
	mustAnswer(t, h, tick(), api.ErrLost)
	mustBeDown(t, h, 1)
}

func TestWhatReturnsAnErrorIsJournaled(t *testing.T) {
	h := host.New()
	left := h.Left()
	for i, o := range []api.Op{named(api.Beat, "n"), named(api.DropNode, "n"), named(api.DropQueue, "q"), named(api.Cancel, "t"), named(api.Finish, "t"), submit("t", 0, 0)} {
		mustAnswer(t, h, o, api.ErrNone)
		mustLeave(t, h, left-i-1)
	}
	left = h.Left()
	for i, kind := range []int{handoff.Cutover, handoff.Commit, handoff.Rollback, handoff.Abort} {
		mustCommand(t, h, api.ErrPhase, kind)
		mustLeave(t, h, left-i-1)
	}
	left = h.Left()
	h.Crash()
	mustRecover(t, h, -1, 0, api.OK)
	mustLeave(t, h, left)
	mustBe(t, h, place{handoff.Calm, 1, 1})
}

func TestHowManyBlocksARecordHas(t *testing.T) {
	h := host.New()
	left := h.Left()
	mustUse := func(o api.Op, blocks int) {
		t.Helper()
		mustDo(t, h, o)
		left -= blocks
		mustLeave(t, h, left)
	}
	mustUse(tick(), 1)
	mustUse(addQueue("q", api.Res{api.MaxRes, api.MaxRes, api.MaxRes}), 1)
	// The encoding of this operation has 57 bytes, so that its record is as long as a block permits.
	edge := addNode(strings.Repeat("n", 16), api.Res{}, api.Label{Key: "a", Value: strings.Repeat("v", 16)}, api.Label{Key: "b", Value: "vvv"})
	if b, err := oper.Encode(edge); err != api.OK || len(b) > 57 {
		t.Fatalf("Encode: %d, %d bytes", err, len(b))
	}
	for {
		b, _ := oper.Encode(edge)
		if len(b) == 57 {
			break
		}
		edge.Node.Labels[1].Value += "v"
	}
	mustUse(edge, 1)
	mustDo(t, h, named(api.DropNode, edge.Node.Name))
	left--
	edge.Node.Labels[1].Value += "v"
	mustUse(edge, 2)
	mustUse(long("t"), 3)
	mustCommand(t, h, api.OK, handoff.Prepare)
	mustLeave(t, h, left-1)
}

func TestCommands(t *testing.T) {
	h := host.New()
	for _, step := range []struct {
		kind int
		err  api.Errno
		to   place
	}{
		{handoff.Cutover, api.ErrPhase, place{1, 1, 1}},
		{handoff.Prepare, api.OK, place{2, 1, 1}},
		{handoff.Prepare, api.ErrPhase, place{2, 1, 1}},
		{handoff.Abort, api.OK, place{1, 1, 1}},
		{handoff.Prepare, api.OK, place{2, 1, 1}},
		{handoff.Cutover, api.OK, place{3, 2, 2}},
		{6, api.ErrArg, place{3, 2, 2}},
		{handoff.Abort, api.ErrPhase, place{3, 2, 2}},
		{handoff.Rollback, api.OK, place{1, 1, 3}},
		{handoff.Prepare, api.OK, place{2, 1, 3}},
		{handoff.Cutover, api.OK, place{3, 2, 4}},
		{handoff.Commit, api.OK, place{1, 2, 4}},
		{handoff.Prepare, api.OK, place{2, 2, 4}},
		{handoff.Cutover, api.OK, place{3, 1, 5}},
	} {
		mustCommand(t, h, step.err, step.kind)
		mustBe(t, h, step.to)
		h.Crash()
		mustBeDown(t, h, step.to.epoch)
		mustRecover(t, h, -1, 0, api.OK)
		mustBe(t, h, step.to)
	}
}

func TestSave(t *testing.T) {
	h := host.New()
	mustDo(t, h, addNode("n", api.Res{4, 0, 0}), addQueue("q", api.Res{9, 9, 9}), submit("a", 1, 3))
	mustDecide(t, h, tick(), "bind a n")
	mustCommand(t, h, api.OK, handoff.Prepare, handoff.Cutover)
	mustLeave(t, h, room-1-6)
	want := h.State()
	for range 5 {
		mustSave(t, h, api.OK)
		// The snapshot has two blocks now.
		mustLeave(t, h, room-2)
		mustBe(t, h, place{handoff.Trial, 2, 2})
		if s := h.State(); !same(s, want) {
			t.Fatalf("State = %+v, not %+v", s, want)
		}
		h.Crash()
		mustRecover(t, h, -1, 0, api.OK)
		mustLeave(t, h, room-2)
		mustBe(t, h, place{handoff.Trial, 2, 2})
		if s := h.State(); !same(s, want) {
			t.Fatalf("State = %+v, not %+v", s, want)
		}
	}
	mustCommand(t, h, api.OK, handoff.Rollback)
	mustDecide(t, h, named(api.Cancel, "a"), "release a n")
}

func TestSaveInEachPhase(t *testing.T) {
	for _, kinds := range [][]int{nil, {1}, {1, 5}, {1, 2}, {1, 2, 3}, {1, 2, 4}, {1, 2, 3, 1}, {1, 2, 3, 1, 2}, {1, 2, 3, 1, 2, 4}} {
		h, quiet := host.New(), host.New()
		for _, one := range []*host.Host{h, quiet} {
			mustDo(t, one, addNode("n", api.Res{4, 0, 0}), addQueue("q", api.Res{9, 9, 9}), submit("a", 1, 3))
			mustCommand(t, one, api.OK, kinds...)
		}
		mustSave(t, h, api.OK)
		mustBe(t, h, placeOf(quiet))
		h.Crash()
		mustRecover(t, h, -1, 0, api.OK)
		mustBe(t, h, placeOf(quiet))
		for kind := handoff.Prepare; kind <= handoff.Abort; kind++ {
			mustDecide(t, h, tick(), lines(quiet.Do(tick()).Acts)...)
			mustCommand(t, h, quiet.Command(kind), kind)
			mustBe(t, h, placeOf(quiet))
		}
	}
}

func TestArm(t *testing.T) {
	h := host.New()
	h.Arm(2, 0)
	mustDo(t, h, tick(), tick())
	mustAnswer(t, h, tick(), api.ErrLost)
	mustBeDown(t, h, 1)
	mustRecover(t, h, -1, 0, api.OK)
	if s := h.State(); s.Clock != 2 {
		t.Errorf("the clock is %d", s.Clock)
	}
	// The last one is the one that counts, and a negative one disarms.
	h.Arm(0, 0)
	h.Arm(1, 0)
	mustDo(t, h, tick())
	h.Arm(-1, 0)
	mustDo(t, h, tick(), tick(), tick())
	for _, writes := range []int{math.MinInt, -2} {
		h.Arm(0, 0)
		h.Arm(writes, 64)
		mustDo(t, h, tick())
	}
	// Each block of a record is a write.
	mustDo(t, h, addQueue("q", api.Res{9, 9, 9}))
	h.Arm(3, 0)
	mustDo(t, h, long("t"))
	mustAnswer(t, h, long("u"), api.ErrLost)
	mustRecover(t, h, -1, 0, api.OK)
	h.Arm(2, 63)
	mustAnswer(t, h, long("u"), api.ErrLost)
	mustRecover(t, h, -1, 0, api.OK)
	mustDo(t, h, long("u"))
}

func TestThePowerComesBackUnarmed(t *testing.T) {
	for _, writes := range []int{-1, -2, math.MinInt} {
		h := host.New()
		h.Arm(3, 0)
		h.Crash()
		mustRecover(t, h, writes, 0, api.OK)
		mustDo(t, h, tick(), tick(), tick(), tick(), tick())
		h.Crash()
		h.Arm(0, 0)
		mustBeDown(t, h, 1)
		mustRecover(t, h, writes, 64, api.OK)
		mustDo(t, h, tick(), tick(), tick())
		h.Arm(0, 0)
		mustAnswer(t, h, tick(), api.ErrLost)
		h.Arm(1, 0)
		mustRecover(t, h, writes, 64, api.OK)
		mustDo(t, h, tick(), tick(), tick())
	}
}

func TestRecoverArms(t *testing.T) {
	h := host.New()
	h.Crash()
	mustRecover(t, h, 0, 0, api.OK)
	mustAnswer(t, h, tick(), api.ErrLost)
	mustRecover(t, h, 2, 0, api.OK)
	mustDo(t, h, tick(), tick())
	mustAnswer(t, h, tick(), api.ErrLost)
	mustRecover(t, h, 1, 20, api.OK)
	mustDo(t, h, tick())
	mustAnswer(t, h, tick(), api.ErrLost)
	// What is left of the block is erased, which is a write, too.
	for _, part := range []int{math.MinInt, -1, 0, 1, 3} {
		mustRecover(t, h, 0, part, api.ErrLost)
		mustBeDown(t, h, 1)
	}
	mustRecover(t, h, 1, 5, api.OK)
	mustAnswer(t, h, tick(), api.ErrLost)
	mustRecover(t, h, 0, 64, api.ErrLost)
	mustRecover(t, h, 0, 64, api.OK)
	mustAnswer(t, h, tick(), api.ErrLost)
	mustRecover(t, h, 0, math.MaxInt, api.OK)
	mustAnswer(t, h, tick(), api.ErrLost)
	mustRecover(t, h, 0, 0, api.OK)
	mustRecover(t, h, 0, 0, api.ErrState)
	h.Arm(-1, 0)
	if s := h.State(); s.Clock != 5 {
		t.Errorf("the clock is %d", s.Clock)
	}
	mustDo(t, h, tick(), tick())
}

func TestRecoverOfAHostThatIsUp(t *testing.T) {
	h := host.New()
	mustDo(t, h, tick())
	left := h.Left()
	h.Arm(1, 0)
	for _, writes := range []int{math.MinInt, -1, 0, 1, math.MaxInt} {
		mustRecover(t, h, writes, 64, api.ErrState)
	}
	mustLeave(t, h, left)
	mustBe(t, h, place{handoff.Calm, 1, 1})
	// It is armed as before.
	mustDo(t, h, tick())
	mustAnswer(t, h, tick(), api.ErrLost)
}

func TestCrash(t *testing.T) {
	h := host.New()
	h.Crash()
	mustBeDown(t, h, 1)
	h.Crash()
	mustBeDown(t, h, 1)
	mustRecover(t, h, -1, 0, api.OK)
	mustLeave(t, h, room-1)
	mustDo(t, h, addQueue("q", api.Res{9, 9, 9}), long("t"))
	mustCommand(t, h, api.OK, handoff.Prepare, handoff.Cutover)
	left, want := h.Left(), h.State()
	for range 3 {
		// Whatever is armed: a crash is not a write that is performed.
		for _, part := range []int{-1, 0, 32, 64, 99} {
			h.Arm(0, part)
			h.Crash()
			mustBeDown(t, h, 2)
			h.Crash()
			mustRecover(t, h, -1, 0, api.OK)
			mustLeave(t, h, left)
			mustBe(t, h, place{handoff.Trial, 2, 2})
			if s := h.State(); !same(s, want) {
				t.Fatalf("State = %+v, not %+v", s, want)
			}
		}
		mustCommand(t, h, api.ErrPhase, handoff.Prepare)
		left--
	}
}

func TestTheEpochIsKnownWhileItIsDown(t *testing.T) {
	h := host.New()
	mustCommand(t, h, api.OK, handoff.Prepare, handoff.Cutover)
	h.Arm(0, 64)
	mustCommand(t, h, api.ErrLost, handoff.Rollback)
	mustBeDown(t, h, 2)
	mustRecover(t, h, -1, 0, api.OK)
	mustBe(t, h, place{handoff.Calm, 1, 3})
	mustCommand(t, h, api.OK, handoff.Prepare)
	h.Arm(0, 64)
	mustCommand(t, h, api.ErrLost, handoff.Cutover)
	// A block that is not complete is erased before the journal is open; until then, the epoch is the one that was known.
	mustRecover(t, h, 0, 30, api.OK)
	mustBe(t, h, place{handoff.Trial, 2, 4})
	mustCommand(t, h, api.ErrLost, handoff.Commit)
	mustBeDown(t, h, 4)
	for range 3 {
		mustRecover(t, h, 0, 0, api.ErrLost)
		mustBeDown(t, h, 4)
	}
	mustRecover(t, h, -1, 0, api.OK)
	mustBe(t, h, place{handoff.Trial, 2, 4})
	// Only Cutover and Rollback change it.
	mustDo(t, h, tick())
	mustSave(t, h, api.OK)
	mustCommand(t, h, api.ErrPhase, handoff.Cutover)
	mustBe(t, h, place{handoff.Trial, 2, 4})
	mustCommand(t, h, api.OK, handoff.Commit)
	mustBe(t, h, place{handoff.Calm, 2, 4})
}

func TestTheEpochIsReadWithoutWaiting(t *testing.T) {
	h := host.New()
	done := make(chan struct{})
	var readers sync.WaitGroup
	for range 4 {
		readers.Go(func() {
			last := 1
			for {
				select {
				case <-done:
					return
				default:
				}
				n := h.Epoch()
				if n < last || n > 201 {
					t.Errorf("Epoch = %d after %d", n, last)
					return
				}
				last = n
			}
		})
	}
	for range 100 {
		mustCommand(t, h, api.OK, handoff.Prepare, handoff.Cutover)
		h.Crash()
		mustRecover(t, h, -1, 0, api.OK)
		mustCommand(t, h, api.OK, handoff.Rollback)
	}
	close(done)
	readers.Wait()
	mustBe(t, h, place{handoff.Calm, 1, 201})
}
