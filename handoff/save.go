package handoff

import (
	"interregnum/api"
	"interregnum/pack"
)

// Save returns the control as bytes: the generation beside the active one has the same state, and is left out.
func (c *Control) Save() []byte {
	if c.isNone() {
		return nil
	}
	state, err := c.active.encoded()
	// A job of a state that was loaded can have been bound more often than any state permits since then.
	if err != api.OK {
		return nil
	}
	var b []byte
	for _, n := range []int{c.phase, c.active.number(), c.epoch} {
		b = pack.Put(b, uint64(n))
	}
	return pack.PutText(b, string(state))
}

// Load returns the control that is saved as b.
func Load(b []byte) (*Control, api.Errno) {
	numbers, state, ok := parts(b)
	if !ok {
		return nil, api.ErrForm
	}
	phase, active, epoch := numbers[0], numbers[1], numbers[2]
	if phase < Calm || phase > Trial || epoch < 1 || epoch > api.MaxClock {
		return nil, api.ErrForm
	}
	g, err := decoded(state)
	if err != api.OK || uint64(g.number()) != active {
		return nil, api.ErrForm
	}
	c := &Control{phase: int(phase), epoch: int(epoch), active: g}
	if phase == Calm {
		return c, api.OK
	}
	c.other, err = transferred(g)
	if err != api.OK {
		return nil, api.ErrForm
	}
	return c, api.OK
}

// parts returns the numbers and the string that b consists of; false if it does not.
func parts(b []byte) (numbers [3]uint64, text []byte, ok bool) {
	at, err := 0, api.OK
	for i := range numbers {
		numbers[i], at, err = pack.Take(b, at)
		if err != api.OK {
			return [3]uint64{}, nil, false
		}
	}
	// No string in b is longer than b.
	s, end, err := pack.TakeText(b, at, len(b))
	if err != api.OK || end != len(b) {
		return [3]uint64{}, nil, false
	}
	return numbers, []byte(s), true
}
