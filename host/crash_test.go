package host_test

import (
	"slices"
	"testing"

	"interregnum/api"
	"interregnum/handoff"
	"interregnum/host"
)

// parts are how much of a block is written when the power fails.
func parts() []int {
	return []int{-1, 0, 1, 2, 31, 60, 62, 63, 64, 65}
}

// thing is something that a host is asked to do, with how often it writes.
type thing struct {
	what   string
	do     func(h *host.Host) api.Errno
	writes int
}

func operation(what string, o api.Op, writes int) thing {
	return thing{what, func(h *host.Host) api.Errno { return h.Do(o).Err }, writes}
}

func command(what string, kind, writes int) thing {
	return thing{what, func(h *host.Host) api.Errno { return h.Command(kind) }, writes}
}

// picture is all that is seen of a host.
type picture struct {
	at    place
	epoch int
	state api.State
	left  int
}

func pictureOf(h *host.Host) picture {
	return picture{placeOf(h), h.Epoch(), h.State(), h.Left()}
}

func (p picture) equals(q picture) bool {
	return p.at == q.at && p.epoch == q.epoch && p.left == q.left && same(p.state, q.state)
}

// mustSurvive lets the power fail at each of the given writes of a thing, with each part of the block.
// What was there before must be there then, or, from a write on that is the last one, what is there after the thing.
func mustSurvive(t *testing.T, make func(t *testing.T) *host.Host, x thing, which []int) {
	t.Helper()
	whole := make(t)
	before := pictureOf(whole)
	whole.Arm(x.writes, 0)
	err := x.do(whole)
	after := pictureOf(whole)
	if err == api.ErrLost || whole.Do(tick()).Err != api.ErrLost {
		t.Fatalf("%s: it is not as many as %d writes", x.what, x.writes)
	}
	for _, n := range which {
		for _, part := range parts() {
			h := make(t)
			h.Arm(n, part)
			if got := x.do(h); got != api.ErrLost {
				t.Fatalf("%s: %d, cut off at %d, %d", x.what, got, n, part)
			}
			mustBeDown(t, h, before.epoch)
			mustRecover(t, h, -1, 0, api.OK)
			want := before
			if n == x.writes-1 && part >= api.BlockLen {
				want = after
			}
			if got := pictureOf(h); !got.equals(want) {
				t.Fatalf("%s: cut off at %d, %d, it is %+v, not %+v", x.what, n, part, got, want)
			}
			mustGoOn(t, h, x, want.equals(before), err)
		}
	}
}

// mustGoOn asks that a host goes on after a thing was lost, which is done now if it was not done yet.
func mustGoOn(t *testing.T, h *host.Host, x thing, again bool, want api.Errno) {
	t.Helper()
	if again {
		if err := x.do(h); err != want {
			t.Fatalf("%s: %d, not %d, after it was cut off", x.what, err, want)
		}
	}
	seen := pictureOf(h)
	h.Crash()
	mustRecover(t, h, -1, 0, api.OK)
	if got := pictureOf(h); !got.equals(seen) {
		t.Fatalf("%s: it is %+v, not %+v", x.what, got, seen)
	}
	mustDo(t, h, tick())
}

// prepared returns a host with machines, a queue and tasks, after commands.
func prepared(kinds ...int) func(t *testing.T) *host.Host {
	return func(t *testing.T) *host.Host {
		t.Helper()
		h := host.New()
		mustDo(t, h, addNode("n", api.Res{4, 0, 0}, a1), addNode("m", api.Res{9, 9, 9}, b2), addQueue("q", api.Res{9, 9, 9}), submit("a", 1, 3), tick(), submit("b", 2, 3, a1))
		mustCommand(t, h, api.OK, kinds...)
		mustDo(t, h, submit("c", 5, 1))
		return h
	}
}

// filled returns a host like make, whose journal has only so many blocks left.
func filled(make func(t *testing.T) *host.Host, left int) func(t *testing.T) *host.Host {
	return func(t *testing.T) *host.Host {
		t.Helper()
		h := make(t)
		for range h.Left() - left {
			mustDo(t, h, tick())
		}
		mustLeave(t, h, left)
		return h
	}
}

func upTo(n int) []int {
	var l []int
	for i := range n {
		l = append(l, i)
	}
	return l
}

func TestThePowerFailsInAnOperation(t *testing.T) {
	for _, kinds := range [][]int{nil, {1}, {1, 2}, {1, 2, 3}, {1, 2, 3, 1}, {1, 2, 3, 1, 2}} {
		for _, x := range []thing{
			operation("AddNode", addNode("o", api.Res{1, 1, 1}), 1),
			operation("AddNode, rejected", addNode("n", api.Res{1, 1, 1}), 1),
			operation("DropNode", named(api.DropNode, "n"), 1),
			operation("AddQueue", addQueue("r", api.Res{1, 1, 1}), 1),
			operation("DropQueue, rejected", named(api.DropQueue, "q"), 1),
			operation("Submit", submit("d", 1, 1, a1, b2), 1),
			operation("Submit of a long one", long("d"), 3),
			operation("Cancel", named(api.Cancel, "a"), 1),
			operation("Finish", named(api.Finish, "a"), 1),
			operation("Beat", named(api.Beat, "n"), 1),
			operation("Tick", tick(), 1),
		} {
			mustSurvive(t, prepared(kinds...), x, upTo(x.writes))
		}
	}
}

func TestThePowerFailsInACommand(t *testing.T) {
	for _, kinds := range [][]int{nil, {1}, {1, 2}, {1, 2, 3}, {1, 2, 3, 1}, {1, 2, 3, 1, 2}} {
		for kind := handoff.Prepare; kind <= handoff.Abort; kind++ {
			mustSurvive(t, prepared(kinds...), command("Command", kind, 1), []int{0})
		}
	}
}

func TestThePowerFailsInSave(t *testing.T) {
	save := func(h *host.Host) api.Errno { return h.Save() }
	for _, kinds := range [][]int{nil, {1}, {1, 2}, {1, 2, 3}} {
		h := prepared(kinds...)(t)
		mustSave(t, h, api.OK)
		snapshot := room - h.Left()
		// The other area has nothing that is erased.
		mustSurvive(t, prepared(kinds...), thing{"Save", save, snapshot + 1}, upTo(snapshot+1))
		// After another one, it has a snapshot, ten records, and the block before them.
		again := func(t *testing.T) *host.Host {
			t.Helper()
			h := filled(prepared(kinds...), room-20)(t)
			mustSave(t, h, api.OK)
			mustDo(t, h, tick())
			return h
		}
		mustSurvive(t, again, thing{"Save again", save, 21 + snapshot + 1}, upTo(21+snapshot+1))
	}
}

func TestThePowerFailsWhenTheJournalIsFull(t *testing.T) {
	for _, kinds := range [][]int{{1}, {1, 2}} {
		h := filled(prepared(kinds...), 0)(t)
		mustDo(t, h, tick())
		snapshot := room - h.Left() - 1
		// Of the new area, the power fails in the snapshot, in the first block, or in the record.
		for _, one := range []struct {
			x    thing
			left int
		}{
			{operation("Tick", tick(), snapshot+2), 0},
			{operation("Submit of a long one", long("d"), snapshot+4), 2},
			{operation("Submit of a long one", long("d"), snapshot+4), 0},
			{command("Abort", handoff.Abort, snapshot+2), 0},
			{command("Cutover", handoff.Cutover, snapshot+2), 0},
		} {
			mustBeginAnew(t, filled(prepared(kinds...), one.left), one.x, snapshot)
		}
		// The record that fills the last blocks does not begin the journal anew.
		mustSurvive(t, filled(prepared(kinds...), 3), operation("Submit of a long one", long("d"), 3), upTo(3))
	}
}

// mustBeginAnew lets the power fail at each write of a thing that begins the journal anew, with as many blocks of the snapshot.
// Before the journal has begun anew, it is the old one; then it has only the snapshot, and at last the record.
func mustBeginAnew(t *testing.T, make func(t *testing.T) *host.Host, x thing, snapshot int) {
	t.Helper()
	whole := make(t)
	before := pictureOf(whole)
	err := x.do(whole)
	after := pictureOf(whole)
	for n := range x.writes {
		for _, part := range []int{0, 63, 64} {
			h := make(t)
			h.Arm(n, part)
			if got := x.do(h); got != api.ErrLost {
				t.Fatalf("%s: %d, cut off at %d, %d", x.what, got, n, part)
			}
			mustBeDown(t, h, before.epoch)
			mustRecover(t, h, -1, 0, api.OK)
			want := before
			switch {
			case n == x.writes-1 && part >= api.BlockLen:
				want = after
			case n > snapshot || n == snapshot && part >= api.BlockLen:
				want.left = room - snapshot
			}
			if got := pictureOf(h); !got.equals(want) {
				t.Fatalf("%s: cut off at %d, %d, it is %+v, not %+v", x.what, n, part, got, want)
			}
			mustGoOn(t, h, x, !want.equals(after), err)
		}
	}
}

func TestThePowerFailsInRecover(t *testing.T) {
	for _, kind := range []int{handoff.Prepare, handoff.Cutover} {
		for _, part := range []int{1, 31, 63} {
			h := prepared([]int{1, 2}[:kind-1]...)(t)
			before := pictureOf(h)
			h.Arm(0, part)
			mustCommand(t, h, api.ErrLost, kind)
			// Whatever an erasing that is cut off leaves there, it is no record.
			for i, broken := range []int{0, 1, 0, -1, 2, 0} {
				err := h.Recover(0, broken)
				if err == api.ErrLost {
					mustBeDown(t, h, before.epoch)
					continue
				}
				if got := pictureOf(h); err != api.OK || !got.equals(before) {
					t.Fatalf("Recover = %d, it is %+v, not %+v", err, got, before)
				}
				if i == 0 {
					t.Fatalf("there was nothing to erase after %d bytes", part)
				}
				h.Crash()
			}
			mustRecover(t, h, -1, 0, api.OK)
			if got := pictureOf(h); !got.equals(before) {
				t.Fatalf("it is %+v, not %+v", got, before)
			}
			mustCommand(t, h, api.OK, kind)
		}
	}
}

func TestThePowerFailsInRecoverAfterALongRecord(t *testing.T) {
	for cut := range 3 {
		for writes := range 4 {
			for _, part := range parts() {
				h := prepared()(t)
				before := pictureOf(h)
				h.Arm(cut, 40)
				mustAnswer(t, h, long("d"), api.ErrLost)
				err := h.Recover(writes, part)
				if lost := writes <= cut; lost != (err == api.ErrLost) {
					t.Fatalf("Recover(%d, %d) = %d after %d blocks", writes, part, err, cut)
				}
				for range 4 {
					if err == api.ErrLost {
						mustBeDown(t, h, before.epoch)
						err = h.Recover(1, part)
					}
				}
				if got := pictureOf(h); err != api.OK || !got.equals(before) {
					t.Fatalf("Recover = %d, it is %+v, not %+v", err, got, before)
				}
				h.Arm(-1, 0)
				mustDo(t, h, long("d"))
			}
		}
	}
}

// TestNothingThatWasAnsweredIsLost lets the power fail at each write of a long run, and does the run's things again from there.
func TestNothingThatWasAnsweredIsLost(t *testing.T) {
	roll := dice(234)
	var run []thing
	for i := range 60 {
		if i%5 == 4 {
			run = append(run, command("Command", 1+roll(5), 1))
		} else {
			run = append(run, operation("Do", crowd.op(roll), 1))
		}
	}
	whole := host.New()
	pictures := []picture{pictureOf(whole)}
	for _, x := range run {
		x.do(whole)
		pictures = append(pictures, pictureOf(whole))
	}
	for n := range room - 1 - whole.Left() {
		for _, part := range []int{0, 33, 64} {
			h := host.New()
			h.Arm(n, part)
			answered := slices.IndexFunc(run, func(x thing) bool { return x.do(h) == api.ErrLost })
			mustRecover(t, h, -1, 0, api.OK)
			got := pictureOf(h)
			if got.equals(pictures[answered+1]) {
				answered++
			} else if !got.equals(pictures[answered]) {
				t.Fatalf("after %d things, it is %+v, not %+v", answered, got, pictures[answered])
			}
			for _, x := range run[answered:] {
				x.do(h)
			}
			if got := pictureOf(h); !got.equals(pictures[len(run)]) {
				t.Fatalf("it is %+v at last, not %+v", got, pictures[len(run)])
			}
		}
	}
}
