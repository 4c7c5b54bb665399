package handoff_test

import (
	"math"
	"slices"
	"testing"

	"interregnum/api"
	"interregnum/gen1"
	"interregnum/handoff"
	"interregnum/pack"
	"interregnum/schema"
)

var (
	a1 = api.Label{Key: "a", Value: "1"}
	b2 = api.Label{Key: "b", Value: "2"}
)

// rich is a state in which all fields are used: b and c fill the machine m, and the quota of p.
func rich() api.State {
	return api.State{
		Clock: 7,
		Next:  9,
		Machines: []api.Machine{
			{Node: api.Node{Name: "k", Cap: api.Res{5, 5, 5}, Labels: []api.Label{a1, b2}}, Up: true, Until: 9},
			{Node: api.Node{Name: "l"}, Until: 3},
			{Node: api.Node{Name: "m", Cap: api.Res{3, 3, 3}, Labels: []api.Label{b2}}, Up: true, Until: 11},
		},
		Queues: []api.Queue{{Name: "o"}, {Name: "p", Quota: api.Res{3, 2, 3}}, {Name: "q", Quota: api.Res{9, 9, 9}}},
		Jobs: []api.Job{
			{Task: api.Task{Name: "d", Queue: "q", Prio: 1, Need: api.Res{1, 1, 1}, Gang: "g", Size: 2}, Seq: 2, Bound: 3},
			{Task: api.Task{Name: "b", Queue: "p", Prio: 3, Need: api.Res{1, 2, 3}, Wants: []api.Label{b2}, Apart: "x"}, Seq: 4, Node: "m", Bound: 1},
			{Task: api.Task{Name: "c", Queue: "p", Prio: 9, Need: api.Res{2, 0, 0}, Apart: "y"}, Seq: 5, Node: "m", Bound: 2},
			{Task: api.Task{Name: "a", Queue: "q", Need: api.Res{5, 0, 1}, Wants: []api.Label{a1, b2}, Apart: "x"}, Seq: 8, Node: "k", Bound: 1},
		},
	}
}

// stateCode is the encoding of a valid state in the schema of a generation.
func stateCode(t *testing.T, active int, s api.State) string {
	t.Helper()
	code, err := schema.Encode1(s)
	if active == 2 {
		code, err = schema.Encode2(s)
	}
	if err != api.OK {
		t.Fatalf("no encoding of %+v: %d", s, err)
	}
	return string(code)
}

// control are three numbers and a string, as a control consists of them.
func control(phase, active, epoch uint64, state string) []byte {
	b := pack.Put(pack.Put(pack.Put(nil, phase), active), epoch)
	return pack.PutText(b, state)
}

// saved is what the chapter says of a control with a valid state.
func saved(t *testing.T, p place, s api.State) []byte {
	t.Helper()
	return control(uint64(p.phase), uint64(p.active), uint64(p.epoch), stateCode(t, p.active, s))
}

// loaded is the control with a valid state at a place, which must exist.
func loaded(t *testing.T, p place, s api.State) *handoff.Control {
	t.Helper()
	b := saved(t, p, s)
	c, err := handoff.Load(b)
	if err != api.OK || c == nil {
		t.Fatalf("Load(%q) = %d", b, err)
	}
	mustBe(t, c, p)
	if !same(c.State(), s) {
		t.Fatalf("State = %+v, not %+v", c.State(), s)
	}
	if got := c.Save(); !slices.Equal(got, b) {
		t.Fatalf("Save = %q, not %q", got, b)
	}
	return c
}

func mustRefuse(t *testing.T, what string, b []byte) {
	t.Helper()
	if c, err := handoff.Load(b); c != nil || err != api.ErrForm {
		t.Errorf("%s: Load(%q) = %v, %d", what, b, c, err)
	}
}

// places are all phases, with both generations and several epochs.
func places() []place {
	var l []place
	for phase := handoff.Calm; phase <= handoff.Trial; phase++ {
		for active := 1; active <= 2; active++ {
			for _, epoch := range []int{1, 2, 3, 255, 256, api.MaxClock - 1, api.MaxClock} {
				l = append(l, place{phase, active, epoch})
			}
		}
	}
	return l
}

func TestSaveOfANewControl(t *testing.T) {
	c := handoff.New()
	mustSave := func(want ...byte) {
		t.Helper()
		if b := c.Save(); !slices.Equal(b, want) {
			t.Errorf("Save = %v, not %v", b, want)
		}
	}
	mustSave(1, 1, 1, 1, 1, 1, 1, 8, 1, 1, 0, 1, 1, 0, 0, 0)
	mustCommand(t, c, handoff.Prepare)
	mustSave(1, 2, 1, 1, 1, 1, 1, 8, 1, 1, 0, 1, 1, 0, 0, 0)
	mustCommand(t, c, handoff.Cutover)
	mustSave(1, 3, 1, 2, 1, 2, 1, 7, 1, 2, 0, 1, 1, 0, 0)
	mustCommand(t, c, handoff.Commit)
	mustSave(1, 1, 1, 2, 1, 2, 1, 7, 1, 2, 0, 1, 1, 0, 0)
}

func TestSaveOfEachPhase(t *testing.T) {
	for _, path := range paths {
		c := handoff.New()
		mustCommand(t, c, path.kinds...)
		mustDo(t, c, addQueue("q", api.Res{9, 9, 9}), addNode("n", api.Res{4, 0, 0}, a1), submit("t", 1, 2, a1), tick(), submit("u", 1, 2))
		s := c.State()
		if len(s.Jobs) != 2 || s.Jobs[0].Node != "n" {
			t.Fatalf("State = %+v", s)
		}
		if b, want := c.Save(), saved(t, path.to, s); !slices.Equal(b, want) {
			t.Errorf("Save = %q, not %q", b, want)
		}
		mustBe(t, loaded(t, path.to, s), path.to)
	}
}

func TestLoadedControlsGoOn(t *testing.T) {
	for _, p := range places() {
		for kind := handoff.Prepare; kind <= handoff.Abort; kind++ {
			c := loaded(t, p, rich())
			alone, _ := gen1.Load(rich())
			for _, o := range []api.Op{submit("x", 9, 3, a1), tick()} {
				mustDecide(t, c, o, lines(alone.Do(o).Acts)...)
			}
			c.Command(kind)
			if !same(c.State(), alone.State()) {
				t.Fatalf("after Command(%d) at %+v, State = %+v, not %+v", kind, p, c.State(), alone.State())
			}
			for _, o := range []api.Op{named(api.DropNode, "m"), tick(), tick(), tick(), named(api.Cancel, "x"), tick()} {
				mustDecide(t, c, o, lines(alone.Do(o).Acts)...)
			}
			if !same(c.State(), alone.State()) || c.Apart() != 0 {
				t.Errorf("State = %+v, not %+v; Apart = %d", c.State(), alone.State(), c.Apart())
			}
		}
	}
}

func TestTheGreatestEpoch(t *testing.T) {
	const most = api.MaxClock
	for active := 1; active <= 2; active++ {
		calm, shadow, trial := place{handoff.Calm, active, most}, place{handoff.Shadow, active, most}, place{handoff.Trial, active, most}
		c := loaded(t, calm, rich())
		mustReject(t, c, handoff.Cutover, api.ErrPhase)
		mustReject(t, c, handoff.Rollback, api.ErrPhase)
		mustReject(t, c, 6, api.ErrArg)
		mustCommand(t, c, handoff.Prepare)
		mustBe(t, c, shadow)
		mustReject(t, c, handoff.Cutover, api.ErrOver)
		mustReject(t, c, handoff.Rollback, api.ErrPhase)
		mustReject(t, c, 6, api.ErrArg)
		mustDo(t, c, tick())
		mustCommand(t, c, handoff.Abort)
		mustBe(t, c, calm)

		c = loaded(t, trial, rich())
		mustReject(t, c, handoff.Rollback, api.ErrOver)
		mustReject(t, c, handoff.Cutover, api.ErrPhase)
		mustReject(t, c, 0, api.ErrArg)
		mustDo(t, c, tick())
		mustCommand(t, c, handoff.Commit)
		mustBe(t, c, calm)

		c = loaded(t, place{handoff.Shadow, 3 - active, most - 1}, rich())
		mustCommand(t, c, handoff.Cutover)
		mustBe(t, c, trial)
		mustReject(t, c, handoff.Rollback, api.ErrOver)

		c = loaded(t, place{handoff.Trial, 3 - active, most - 1}, rich())
		mustCommand(t, c, handoff.Rollback)
		mustBe(t, c, calm)
	}
}

func TestNumbersThatAreNone(t *testing.T) {
	big := []uint64{255, 256, 1<<32 + 1, 1<<32 + 2, 1<<40 + 1, math.MaxInt64, 1 << 63, 1<<63 + 1, math.MaxUint64 - 1, math.MaxUint64}
	for active := uint64(1); active <= 2; active++ {
		s := stateCode(t, int(active), rich())
		for _, n := range append([]uint64{0, 4, 5}, big...) {
			mustRefuse(t, "the phase", control(n, active, 1, s))
		}
		for _, n := range append([]uint64{0, 3, 4}, big...) {
			for phase := uint64(1); phase <= 3; phase++ {
				mustRefuse(t, "the generation", control(phase, n, 1, s))
			}
		}
		for _, n := range append([]uint64{0, api.MaxClock + 1, api.MaxClock + 2, 1<<31 + 1}, big[2:]...) {
			for phase := uint64(1); phase <= 3; phase++ {
				mustRefuse(t, "the epoch", control(phase, active, n, s))
			}
		}
	}
}

func TestStatesThatAreNone(t *testing.T) {
	for phase := uint64(1); phase <= 3; phase++ {
		for active := 1; active <= 2; active++ {
			n := uint64(active)
			for _, s := range []api.State{{Next: 1}, rich()} {
				code, other := stateCode(t, active, s), stateCode(t, 3-active, s)
				mustRefuse(t, "the other schema", control(phase, n, 1, other))
				mustRefuse(t, "the other generation", control(phase, 3-n, 1, code))
				mustRefuse(t, "the schema alone", control(phase, n, 1, code[:2]))
				mustRefuse(t, "without the last byte", control(phase, n, 1, code[:len(code)-1]))
				mustRefuse(t, "without the first byte", control(phase, n, 1, code[1:]))
				mustRefuse(t, "a byte more", control(phase, n, 1, code+"\x00"))
				mustRefuse(t, "twice", control(phase, n, 1, code+code))
				mustRefuse(t, "both schemas", control(phase, n, 1, code+other))
				mustRefuse(t, "a string in it", control(phase, n, 1, string(pack.PutText(nil, code))))
			}
			mustRefuse(t, "no state", control(phase, n, 1, ""))
			mustRefuse(t, "a Clock that is too great", control(phase, n, 1, string([]byte{1, byte(active), 4, 64, 0, 0, 1, 1, 1, 0, 0, 0}[:13-active])))
			mustRefuse(t, "no Next", control(phase, n, 1, string([]byte{1, byte(active), 0, 0, 0, 0, 0}[:8-active])))
		}
	}
}

func TestBytesThatAreNoControl(t *testing.T) {
	for _, p := range []place{{handoff.Calm, 1, 1}, {handoff.Shadow, 2, 300}, {handoff.Trial, 1, api.MaxClock}} {
		b := saved(t, p, rich())
		for size := range b {
			mustRefuse(t, "cut off", b[:size:size])
			if size > 0 {
				mustRefuse(t, "without its beginning", b[size:])
			}
		}
		for _, more := range []string{"\x00", "\x01", "\xff", "\x00\x00", string(b)} {
			mustRefuse(t, "followed by more", append(slices.Clone(b), more...))
			mustRefuse(t, "after more", append([]byte(more), b...))
		}
		head := len(b) - len(stateCode(t, p.active, rich()))
		for at := range head {
			for _, number := range []string{"\x01\x00", "\x02\x00\x01", "\x09", "\xff", "\x08\x80\x00\x00\x00\x00\x00\x00\x01", "\x08\xff\xff\xff\xff\xff\xff\xff\xff"} {
				mustAgree(t, slices.Concat(b[:at], []byte(number), b[at+1:]))
				mustAgree(t, slices.Concat(b[:at], []byte(number)))
			}
		}
	}
	s := stateCode(t, 1, rich())
	for _, length := range []uint64{0, 1, uint64(len(s) - 1), uint64(len(s) + 1), 1 << 32, 1 << 40, math.MaxInt64, 1 << 63, math.MaxUint64} {
		b := pack.Put([]byte{1, 1, 1, 1, 1, 1}, length)
		mustRefuse(t, "another length", append(b, s...))
	}
}

// parsed is what the chapter says of b: the control that is saved as b, or that there is none.
func parsed(b []byte) (p place, s api.State, ok bool) {
	var numbers [3]uint64
	at, err := 0, api.OK
	for i := range numbers {
		if numbers[i], at, err = pack.Take(b, at); err != api.OK {
			return place{}, api.State{}, false
		}
	}
	text, end, err := pack.TakeText(b, at, math.MaxInt32)
	s, kind, wrong := schema.Decode([]byte(text))
	ok = err == api.OK && wrong == api.OK && end == len(b) && numbers[1] == uint64(kind) &&
		numbers[0] >= 1 && numbers[0] <= 3 && numbers[2] >= 1 && numbers[2] <= api.MaxClock
	return place{int(numbers[0]), int(numbers[1]), int(numbers[2])}, s, ok
}

// mustAgree asks that Load returns what the chapter says of b. It reports whether there is a control.
func mustAgree(t *testing.T, b []byte) bool {
	t.Helper()
	p, s, ok := parsed(b)
	if !ok {
		mustRefuse(t, "no control", b)
		return false
	}
	if c := loaded(t, p, s); !slices.Equal(c.Save(), b) {
		t.Fatalf("%q is loaded as %q", b, c.Save())
	}
	return true
}

func TestEachByteMatters(t *testing.T) {
	controls := 0
	for _, p := range []place{{handoff.Calm, 1, 1}, {handoff.Shadow, 2, 300}, {handoff.Trial, 2, 2}} {
		b := saved(t, p, rich())
		for at := range b {
			for _, c := range []byte{0, 1, 2, 3, 4, 7, 9, 'a', 'm', 255, b[at] + 1, b[at] - 1, b[at] ^ 128} {
				other := slices.Clone(b)
				other[at] = c
				if mustAgree(t, other) {
					controls++
				}
			}
		}
	}
	if controls < 500 {
		t.Errorf("only %d were controls", controls)
	}
}

func TestChangedBytes(t *testing.T) {
	roll := dice(221)
	controls, others := 0, 0
	for range 3000 {
		p := place{1 + roll(3), 1 + roll(2), 1 + roll(600)}
		b := saved(t, p, rich())
		for range 1 + roll(2) {
			// The head is short, but is to be changed as often as the rest.
			at := roll(len(b))
			if roll(2) == 0 {
				at = roll(10)
			}
			switch roll(4) {
			case 0:
				b[at] = byte(roll(256))
			case 1:
				b[at] += byte(roll(3) - 1)
			case 2:
				b = slices.Insert(b, at, byte(roll(4)))
			case 3:
				b = slices.Delete(b, at, at+1)
			}
		}
		if mustAgree(t, b) {
			controls++
		} else {
			others++
		}
	}
	if controls < 200 || others < 1500 {
		t.Errorf("%d controls, and %d others", controls, others)
	}
}

func TestStatesThatCannotBeEncoded(t *testing.T) {
	// A job that was bound as often as a state permits is bound once more.
	for phase := handoff.Calm; phase <= handoff.Trial; phase++ {
		for active := 1; active <= 2; active++ {
			s := rich()
			s.Jobs[1].Bound = 1 << 40
			c := loaded(t, place{phase, active, 5}, s)
			alone, _ := gen1.Load(s)
			for _, o := range []api.Op{named(api.DropNode, "m"), addNode("m", api.Res{3, 3, 3}, b2), tick()} {
				mustDecide(t, c, o, lines(alone.Do(o).Acts)...)
			}
			if b := c.Save(); len(b) > 0 {
				t.Errorf("Save = %q", b)
			}
			for kind := handoff.Prepare; kind <= handoff.Abort; kind++ {
				at := placeOf(c)
				if c.Command(kind) != api.OK {
					mustBe(t, c, at)
				}
				o := tick()
				mustDecide(t, c, o, lines(alone.Do(o).Acts)...)
			}
			if !same(c.State(), alone.State()) || c.Apart() != 0 {
				t.Errorf("State = %+v, not %+v; Apart = %d", c.State(), alone.State(), c.Apart())
			}
		}
	}
}
