package handoff

import "interregnum/api"

// phaseOf returns the phase in which a command can be performed.
func phaseOf(kind int) int {
	switch kind {
	case Prepare:
		return Calm
	case Cutover, Abort:
		return Shadow
	}
	return Trial
}

// prepare lets the other generation run in the shadow of the active one.
func (c *Control) prepare() api.Errno {
	other, err := transferred(c.active)
	if err != api.OK {
		return err
	}
	c.phase, c.other = Shadow, other
	return api.OK
}

// cutover keeps the formerly active generation, so that it can take over again.
func (c *Control) cutover() api.Errno {
	if err := c.takeOver(); err != api.OK {
		return err
	}
	c.phase = Trial
	return api.OK
}

func (c *Control) rollback() api.Errno {
	if err := c.takeOver(); err != api.OK {
		return err
	}
	c.discard()
	return api.OK
}

// takeOver makes the other generation the active one, in an epoch of its own.
func (c *Control) takeOver() api.Errno {
	if c.epoch == api.MaxClock {
		return api.ErrOver
	}
	c.active, c.other = c.other, c.active
	c.epoch++
	return api.OK
}

// discard leaves the active generation alone.
func (c *Control) discard() {
	c.phase, c.other = Calm, nil
}
