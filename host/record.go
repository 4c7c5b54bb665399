package host

import (
	"interregnum/api"
	"interregnum/handoff"
	"interregnum/oper"
)

// What a record is of, as its first byte.
const (
	operation = 1
	command   = 2
)

// ofOperation returns the record of an operation, or ErrArg if it is not valid.
func ofOperation(o api.Op) ([]byte, api.Errno) {
	b, err := oper.Encode(o)
	if err != api.OK {
		return nil, err
	}
	return append([]byte{operation}, b...), api.OK
}

// ofCommand returns the record of a command, or ErrArg if there is no such command.
func ofCommand(kind int) ([]byte, api.Errno) {
	if kind < handoff.Prepare || kind > handoff.Abort {
		return nil, api.ErrArg
	}
	return []byte{command, byte(kind)}, api.OK
}

// perform lets a control perform what a record is of. The answer was given already, or was lost.
func perform(c *handoff.Control, record []byte) {
	if record[0] == command {
		c.Command(int(record[1]))
		return
	}
	// Only operations that are valid are journaled.
	o, _ := oper.Decode(record[1:])
	c.Do(o)
}
