package host

import (
	"bytes"
	"slices"
	"testing"

	"interregnum/api"
	"interregnum/handoff"
	"interregnum/journal"
)

// mustHave asks for all that the journal of a host has.
func mustHave(t *testing.T, h *Host, snapshot []byte, records ...[]byte) {
	t.Helper()
	if b := h.journal.Snapshot(); !bytes.Equal(b, snapshot) {
		t.Fatalf("the snapshot is %v, not %v", b, snapshot)
	}
	if l := h.journal.Records(); !slices.EqualFunc(l, records, bytes.Equal) {
		t.Fatalf("the records are %v, not %v", l, records)
	}
}

// fresh is the snapshot of a new control.
var fresh = []byte{1, 1, 1, 1, 1, 1, 1, 8, 1, 1, 0, 1, 1, 0, 0, 0}

func TestWhatIsJournaled(t *testing.T) {
	h := New()
	mustHave(t, h, fresh)
	h.Do(api.Op{Kind: api.Tick})
	h.Do(api.Op{})
	h.Do(api.Op{Kind: api.Cancel, Name: "t"})
	h.Do(api.Op{Kind: api.AddQueue, Queue: api.Queue{Name: "q", Quota: api.Res{0, 1, 2}}})
	h.Command(0)
	h.Command(6)
	for kind := handoff.Abort; kind >= handoff.Prepare; kind-- {
		h.Command(kind)
	}
	want := [][]byte{
		{1, 1, 9}, {1, 1, 6, 1, 1, 't'}, {1, 1, 3, 1, 1, 'q', 0, 1, 1, 1, 2},
		{2, 5}, {2, 4}, {2, 3}, {2, 2}, {2, 1},
	}
	mustHave(t, h, fresh, want...)
	h.Crash()
	h.Do(api.Op{Kind: api.Tick})
	h.Command(1)
	h.Recover(-1, 0)
	mustHave(t, h, fresh, want...)
	h.Save()
	mustHave(t, h, h.control.Save())
	h.Command(2)
	mustHave(t, h, []byte{1, 2, 1, 1, 1, 1, 1, 18, 1, 1, 1, 1, 1, 1, 0, 1, 1, 1, 1, 'q', 0, 1, 1, 1, 2, 0}, []byte{2, 2})
}

func TestTheJournalBeginsAnewWhenItIsFull(t *testing.T) {
	h := New()
	for range 510 {
		h.Do(api.Op{Kind: api.Tick})
	}
	if len(h.journal.Records()) != 510 || h.journal.Generation() != 1 || h.Left() != 0 {
		t.Fatalf("%d records, generation %d", len(h.journal.Records()), h.journal.Generation())
	}
	h.Do(api.Op{Kind: api.Tick})
	snapshot := []byte{1, 1, 1, 1, 1, 1, 1, 10, 1, 1, 2, 1, 254, 1, 1, 0, 0, 0}
	mustHave(t, h, snapshot, []byte{1, 1, 9})
	h.Command(1)
	mustHave(t, h, snapshot, []byte{1, 1, 9}, []byte{2, 1})
	if h.journal.Generation() != 2 || h.Left() != 508 || h.State().Clock != 511 {
		t.Errorf("generation %d, clock %d", h.journal.Generation(), h.State().Clock)
	}
}

func TestACrashWritesNothing(t *testing.T) {
	for _, prepare := range []func(h *Host){
		func(h *Host) {},
		func(h *Host) { h.Do(api.Op{Kind: api.Tick}) },
		func(h *Host) { h.Save() },
		func(h *Host) { h.Arm(0, 64) },
		func(h *Host) { h.Arm(5, 3) },
	} {
		h := New()
		prepare(h)
		b := h.store.Bytes()
		h.Crash()
		if !h.store.Down() || h.journal != nil || h.control != nil || !bytes.Equal(h.store.Bytes(), b) {
			t.Error("the power is on, or something was written")
		}
		writes := h.store.Writes()
		h.Crash()
		if h.store.Writes() != writes || !bytes.Equal(h.store.Bytes(), b) {
			t.Error("a host that is down wrote something")
		}
		if h.Recover(-1, 0); h.store.Down() || h.journal == nil || !bytes.Equal(h.store.Bytes(), b) {
			t.Error("the power is off, or something was written")
		}
	}
}

func TestAHostHasNothingWhileItIsDown(t *testing.T) {
	for _, fail := range []func(h *Host){
		func(h *Host) { h.Do(api.Op{Kind: api.Tick}) },
		func(h *Host) { h.Command(handoff.Prepare) },
		func(h *Host) { h.Save() },
		func(h *Host) { h.Crash() },
	} {
		h := New()
		h.Arm(0, 30)
		fail(h)
		if h.journal != nil || h.control != nil || !h.store.Down() || h.epoch.Load() != 1 {
			t.Error("the host has a journal or a control")
		}
	}
}

func TestWithASnapshotOfNoControl(t *testing.T) {
	// No host writes one; but nothing panics then, and the host stays down.
	h := New()
	j, err := journal.Open(h.store, nil)
	if err != api.OK || j.Rewrite([]byte("x")) != api.OK {
		t.Fatal("Rewrite")
	}
	h.Crash()
	for range 2 {
		if err := h.Recover(-1, 0); err != api.ErrForm || !h.Down() {
			t.Errorf("Recover = %d", err)
		}
	}
}
