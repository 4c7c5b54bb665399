package host_test

import (
	"strconv"
	"testing"

	"interregnum/api"
	"interregnum/block"
	"interregnum/gen1"
	"interregnum/handoff"
	"interregnum/host"
	"interregnum/journal"
	"interregnum/oper"
	"interregnum/pack"
	"interregnum/schema"
)

// dice returns a function whose numbers, from 0 to below n, have no pattern, but are the same ones for the same seed.
func dice(seed uint32) func(n int) int {
	return func(n int) int {
		seed = seed*1664525 + 1013904223
		return int(seed>>8) % n
	}
}

// world tells how many names there are of each thing, how great machines are, and how often there is which kind of operation, by the kinds.
type world struct {
	nodes, queues, tasks, room int
	often                      [api.Tick + 1]int
}

var (
	// In a small world names often repeat, and most kinds of operations are rejected now and then.
	small = world{nodes: 4, queues: 2, tasks: 12, room: 8, often: [...]int{1, 2, 1, 2, 1, 10, 2, 2, 5, 8}}
	// In a crowd there is room for few of those that wait.
	crowd = world{nodes: 3, queues: 4, tasks: 60, room: 14, often: [...]int{0, 1, 1, 2, 0, 16, 1, 2, 7, 8}}
	// A great world reaches all limits.
	great = world{nodes: 24, queues: 11, tasks: 300, room: 9, often: [...]int{0, 6, 1, 4, 1, 30, 2, 2, 9, 3}}
)

func some(roll func(n int) int, first string, count int) string {
	return first + strconv.Itoa(roll(count))
}

func someLabels(roll func(n int) int) []api.Label {
	var l []api.Label
	for _, key := range []string{"a", "b"} {
		if roll(2) == 0 {
			l = append(l, api.Label{Key: key, Value: strconv.Itoa(roll(2))})
		}
	}
	return l
}

func (w world) task(roll func(n int) int) api.Task {
	k := api.Task{Name: some(roll, "t", w.tasks), Queue: some(roll, "q", w.queues), Prio: roll(5), Need: api.Res{roll(5), roll(3), roll(2)}}
	if roll(5) == 0 {
		k.Wants = someLabels(roll)
	}
	if roll(4) == 0 {
		k.Apart = some(roll, "x", 2)
	}
	if roll(3) == 0 {
		k.Gang, k.Size = some(roll, "g", 3), 2+roll(2)
	}
	return k
}

// op is any operation, which now and then is not valid.
func (w world) op(roll func(n int) int) api.Op {
	total := 0
	for _, n := range w.often {
		total += n
	}
	kind, left := 0, roll(total)
	for left >= w.often[kind] {
		left -= w.often[kind]
		kind++
	}
	switch kind {
	case 0:
		return api.Op{Kind: roll(12) - 1, Name: []string{"", "t1", "T"}[roll(3)]}
	case api.AddNode:
		return addNode(some(roll, "n", w.nodes), api.Res{roll(w.room), roll(w.room), roll(w.room)}, someLabels(roll)...)
	case api.AddQueue:
		return addQueue(some(roll, "q", w.queues), api.Res{4 + roll(30), 4 + roll(30), 4 + roll(30)})
	case api.Submit:
		return api.Op{Kind: kind, Task: w.task(roll)}
	case api.DropNode, api.Beat:
		return named(kind, some(roll, "n", w.nodes))
	case api.DropQueue:
		return named(kind, some(roll, "q", w.queues))
	case api.Cancel, api.Finish:
		return named(kind, some(roll, "t", w.tasks))
	}
	return tick()
}

// command tells where a command leads, and its error.
func (p place) command(kind int) (place, api.Errno) {
	from := map[int]int{handoff.Prepare: handoff.Calm, handoff.Cutover: handoff.Shadow, handoff.Commit: handoff.Trial, handoff.Rollback: handoff.Trial, handoff.Abort: handoff.Shadow}
	to := map[int]int{handoff.Prepare: handoff.Shadow, handoff.Cutover: handoff.Trial, handoff.Commit: handoff.Calm, handoff.Rollback: handoff.Calm, handoff.Abort: handoff.Calm}
	switch {
	case from[kind] == 0:
		return p, api.ErrArg
	case from[kind] != p.phase:
		return p, api.ErrPhase
	case kind == handoff.Cutover || kind == handoff.Rollback:
		return place{to[kind], 3 - p.active, p.epoch + 1}, api.OK
	}
	return place{to[kind], p.active, p.epoch}, api.OK
}

// mirror is a host by the words of the document, with a journal of its own, but with one scheduler alone and what is known of the phases instead of a control.
type mirror struct {
	t     *testing.T
	store *block.Store
	// journal is nil while the mirror is down.
	journal *journal.Journal
	alone   *gen1.Scheduler
	at      place
	// epoch is the one that was known last.
	epoch int
	// origins are what the snapshots are of, by their bytes.
	origins map[string]origin
}

type origin struct {
	at place
	s  api.State
}

func newMirror(t *testing.T) *mirror {
	t.Helper()
	m := &mirror{t: t, store: block.New(), alone: gen1.New(), at: place{handoff.Calm, 1, 1}, epoch: 1, origins: map[string]origin{}}
	j, err := journal.Open(m.store, m.snapshot())
	if err != api.OK {
		t.Fatalf("Open: %d", err)
	}
	m.journal = j
	return m
}

// snapshot is what the control is saved as.
func (m *mirror) snapshot() []byte {
	m.t.Helper()
	s := m.alone.State()
	code, err := schema.Encode1(s)
	if m.at.active == 2 {
		code, err = schema.Encode2(s)
	}
	if err != api.OK {
		m.t.Fatalf("no encoding of %+v: %d", s, err)
	}
	var b []byte
	for _, n := range []int{m.at.phase, m.at.active, m.at.epoch} {
		b = pack.Put(b, uint64(n))
	}
	b = pack.PutText(b, string(code))
	m.origins[string(b)] = origin{m.at, s}
	return b
}

// lose lets the mirror be down.
func (m *mirror) lose(err api.Errno) api.Errno {
	if err == api.ErrLost {
		m.journal = nil
	}
	return err
}

func (m *mirror) rewrite() api.Errno {
	m.t.Helper()
	return m.lose(m.journal.Rewrite(m.snapshot()))
}

func (m *mirror) add(record []byte) api.Errno {
	m.t.Helper()
	err := m.journal.Add(record)
	if err == api.ErrFull {
		if err = m.rewrite(); err == api.OK {
			err = m.journal.Add(record)
		}
	}
	return m.lose(err)
}

func (m *mirror) do(o api.Op) api.Answer {
	m.t.Helper()
	code, err := oper.Encode(o)
	if m.journal == nil {
		err = api.ErrLost
	} else if err == api.OK {
		err = m.add(append([]byte{1}, code...))
	}
	if err != api.OK {
		return api.Answer{Err: err}
	}
	return m.alone.Do(o)
}

func (m *mirror) command(kind int) api.Errno {
	m.t.Helper()
	to, result := m.at.command(kind)
	switch {
	case m.journal == nil:
		return api.ErrLost
	case result == api.ErrArg:
		return result
	}
	if err := m.add([]byte{2, byte(kind)}); err != api.OK {
		return err
	}
	m.at, m.epoch = to, to.epoch
	return result
}

func (m *mirror) save() api.Errno {
	m.t.Helper()
	if m.journal == nil {
		return api.ErrLost
	}
	return m.rewrite()
}

func (m *mirror) crash() {
	// Any write does, if the store has no byte of it.
	if m.journal != nil {
		m.store.Arm(0, 0)
		m.journal.Add(nil)
		m.journal = nil
	}
}

func (m *mirror) recover(writes, part int) api.Errno {
	m.t.Helper()
	if m.journal != nil {
		return api.ErrState
	}
	m.store.Power()
	m.store.Arm(writes, part)
	j, err := journal.Open(m.store, []byte("no host begins with this"))
	if err != api.OK {
		return err
	}
	from, ok := m.origins[string(j.Snapshot())]
	if !ok {
		m.t.Fatalf("nothing was saved as %q", j.Snapshot())
	}
	m.journal, m.at = j, from.at
	m.alone, err = gen1.Load(from.s)
	if err != api.OK {
		m.t.Fatalf("%+v is no state", from.s)
	}
	for _, record := range j.Records() {
		if record[0] == 2 {
			m.at, _ = m.at.command(int(record[1]))
			continue
		}
		o, err := oper.Decode(record[1:])
		if err != api.OK {
			m.t.Fatalf("%v is no operation", record[1:])
		}
		m.alone.Do(o)
	}
	m.epoch = m.at.epoch
	return api.OK
}

// check asks that a host is as its mirror.
func (m *mirror) check(h *host.Host) {
	m.t.Helper()
	at, s := m.at, m.alone.State()
	if m.journal == nil {
		at, s = place{}, api.State{Next: 1}
	}
	if h.Down() != (m.journal == nil) || placeOf(h) != at || h.Epoch() != m.epoch || h.Left() != m.journal.Left() {
		m.t.Fatalf("Down = %t, Where = %+v, not %+v, Epoch = %d, not %d, Left = %d, not %d", h.Down(), placeOf(h), at, h.Epoch(), m.epoch, h.Left(), m.journal.Left())
	}
	if got := h.State(); !same(got, s) {
		m.t.Fatalf("State = %+v, not %+v", got, s)
	}
}
