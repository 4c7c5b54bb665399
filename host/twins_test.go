package host_test

import (
	"testing"

	"interregnum/api"
	"interregnum/handoff"
	"interregnum/host"
	"interregnum/oper"
)

// twins are a host and its mirror, which cannot be told apart.
type twins struct {
	*mirror
	h *host.Host
	// performed counts what was not rejected, interrupted what was answered with ErrLost, and beyond how often what was interrupted happened nevertheless.
	performed, interrupted, beyond, acts int
	epochs                               int
}

func newTwins(t *testing.T) *twins {
	t.Helper()
	return &twins{mirror: newMirror(t), h: host.New()}
}

// count notes how something ended that was done while the host was up.
func (w *twins) count(up bool, err api.Errno) {
	switch {
	case err == api.OK:
		w.performed++
	case up && err == api.ErrLost:
		w.interrupted++
	}
}

func (w *twins) do(o api.Op) {
	w.t.Helper()
	up := !w.h.Down()
	a, b := w.h.Do(o), w.mirror.do(o)
	if !oper.Same(a, b) {
		w.t.Fatalf("Do(%+v) = %d, %q, not %d, %q", o, a.Err, lines(a.Acts), b.Err, lines(b.Acts))
	}
	w.acts += len(a.Acts)
	w.count(up, a.Err)
	w.check(w.h)
}

func (w *twins) command(kind int) {
	w.t.Helper()
	up := !w.h.Down()
	err, want := w.h.Command(kind), w.mirror.command(kind)
	if err != want {
		w.t.Fatalf("Command(%d) = %d, not %d, at %+v", kind, err, want, w.at)
	}
	w.count(up, err)
	w.check(w.h)
}

func (w *twins) save() {
	w.t.Helper()
	up := !w.h.Down()
	err, want := w.h.Save(), w.mirror.save()
	if err != want {
		w.t.Fatalf("Save = %d, not %d", err, want)
	}
	w.count(up, err)
	w.check(w.h)
}

func (w *twins) arm(writes, part int) {
	w.t.Helper()
	w.h.Arm(writes, part)
	w.store.Arm(writes, part)
	w.check(w.h)
}

func (w *twins) crash() {
	w.t.Helper()
	w.h.Crash()
	w.mirror.crash()
	w.check(w.h)
}

func (w *twins) recover(writes, part int) {
	w.t.Helper()
	before := w.alone.State()
	if err, want := w.h.Recover(writes, part), w.mirror.recover(writes, part); err != want {
		w.t.Fatalf("Recover(%d, %d) = %d, not %d", writes, part, err, want)
	}
	w.check(w.h)
	if !same(before, w.alone.State()) {
		w.beyond++
	}
	w.epochs = max(w.epochs, w.epoch)
}

// step does anything.
func (w *twins) step(roll func(n int) int, where world) {
	w.t.Helper()
	switch n := roll(100); {
	case n < 60:
		w.do(where.op(roll))
	case n < 70:
		w.command(roll(8) - 1)
	case n < 71:
		w.save()
	case n < 76:
		w.arm(roll(9)-1, roll(70)-2)
	case n < 78:
		w.arm(roll(900), 64)
	case n < 80:
		w.crash()
	case n < 81:
		w.recover(roll(5)-1, roll(70)-2)
	default:
		w.do(tick())
	}
	for w.h.Down() && roll(5) > 0 {
		w.recover([]int{-1, 0, 1, roll(20), roll(600)}[roll(5)], []int{0, 5, 63, 64, roll(70) - 2}[roll(5)])
	}
}

func TestAnyThingsInAnyOrder(t *testing.T) {
	roll := dice(230)
	performed, interrupted, beyond, acts, epochs := 0, 0, 0, 0, 0
	for range 12 {
		for _, where := range []world{small, crowd} {
			w := newTwins(t)
			for range 400 {
				w.step(roll, where)
			}
			performed, interrupted, beyond, acts, epochs = performed+w.performed, interrupted+w.interrupted, beyond+w.beyond, acts+w.acts, epochs+w.epochs
		}
	}
	if performed < 4000 || interrupted < 450 || beyond < 25 || acts < 500 || epochs < 50 {
		t.Errorf("only %d things were performed, %d interrupted, of which %d happened, %d acts, %d epochs", performed, interrupted, beyond, acts, epochs)
	}
}

func TestAJournalThatIsOftenFull(t *testing.T) {
	roll := dice(231)
	for _, where := range []world{crowd, great} {
		w := newTwins(t)
		full := 0
		for range 4000 {
			left := w.h.Left()
			w.do(where.op(roll))
			if roll(30) == 0 {
				w.command(1 + roll(5))
			}
			if w.h.Left() > left {
				full++
				w.crash()
				w.recover(-1, 0)
			}
		}
		if s := w.h.State(); full < 5 || len(s.Jobs) < 10 {
			t.Errorf("the journal was full %d times; %d jobs", full, len(s.Jobs))
		}
	}
}

func TestAJournalThatIsOftenFullAndInterrupted(t *testing.T) {
	roll := dice(232)
	full, interrupted := 0, 0
	for range 4 {
		w := newTwins(t)
		for range 160 {
			for w.h.Left() > 3 {
				w.do(tick())
			}
			left := w.h.Left()
			w.arm([]int{0, 1, 2, 3, 511, 512, 513, 514, 515, 516, roll(520)}[roll(11)], []int{0, 5, 63, 64, roll(70) - 2}[roll(5)])
			if roll(3) == 0 {
				w.command(1 + roll(5))
			} else {
				w.do(crowd.op(roll))
			}
			if w.h.Left() > left {
				full++
			}
			if w.h.Down() {
				interrupted++
			}
			for w.h.Down() {
				w.recover(roll(3)-1, []int{0, 5, 63, 64}[roll(4)])
			}
			w.arm(-1, 0)
		}
	}
	if full < 50 || interrupted < 150 {
		t.Errorf("the journal was full %d times, and %d times interrupted", full, interrupted)
	}
}

// TestNothingChangesAnswers runs a host beside another one which is never saved and never crashes.
func TestNothingChangesAnswers(t *testing.T) {
	roll := dice(233)
	for range 6 {
		for _, where := range []world{small, crowd} {
			h, quiet := host.New(), host.New()
			for range 200 {
				if roll(10) == 0 {
					mustSave(t, h, api.OK)
				}
				for range roll(3) {
					h.Crash()
					mustRecover(t, h, -1, 0, api.OK)
				}
				if roll(6) == 0 {
					kind := roll(7)
					if a, b := h.Command(kind), quiet.Command(kind); a != b {
						t.Fatalf("Command(%d) = %d, not %d", kind, a, b)
					}
				}
				o := where.op(roll)
				if a, b := h.Do(o), quiet.Do(o); !oper.Same(a, b) {
					t.Fatalf("Do(%+v) = %d, %q, not %d, %q", o, a.Err, lines(a.Acts), b.Err, lines(b.Acts))
				}
				if placeOf(h) != placeOf(quiet) || h.Epoch() != quiet.Epoch() || !same(h.State(), quiet.State()) {
					t.Fatalf("at %+v, not %+v", placeOf(h), placeOf(quiet))
				}
			}
		}
	}
}

func TestEveryCommandIsLostOnlyWithItsAnswer(t *testing.T) {
	for kind := handoff.Prepare; kind <= handoff.Abort; kind++ {
		for _, part := range []int{64, -1, 0, 1, 32, 63} {
			for path := range 4 {
				w := newTwins(t)
				for _, before := range [][]int{nil, {1}, {1, 2}, {1, 2, 3}}[path] {
					w.command(before)
				}
				w.arm(0, part)
				w.command(kind)
				w.recover(-1, 0)
				w.command(kind)
				w.do(tick())
			}
		}
	}
}
