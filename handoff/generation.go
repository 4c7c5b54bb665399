package handoff

import (
	"interregnum/api"
	"interregnum/gen1"
	"interregnum/gen2"
	"interregnum/schema"
)

// generation is a scheduler of either generation.
type generation interface {
	Do(o api.Op) api.Answer
	State() api.State
	// number returns 1 or 2.
	number() int
	// encoded returns the state in the schema of the generation.
	encoded() ([]byte, api.Errno)
}

type first struct{ *gen1.Scheduler }

func (g first) number() int { return 1 }

func (g first) encoded() ([]byte, api.Errno) { return schema.Encode1(g.State()) }

type second struct{ *gen2.Scheduler }

func (g second) number() int { return 2 }

func (g second) encoded() ([]byte, api.Errno) { return schema.Encode2(g.State()) }

// decoded returns the generation whose encoded state is b: the one with the number of the schema.
func decoded(b []byte) (generation, api.Errno) {
	s, number, err := schema.Decode(b)
	if err != api.OK {
		return nil, err
	}
	if number == 1 {
		return loadFirst(s)
	}
	return loadSecond(s)
}

func loadFirst(s api.State) (generation, api.Errno) {
	g, err := gen1.Load(s)
	if err != api.OK {
		return nil, err
	}
	return first{g}, api.OK
}

func loadSecond(s api.State) (generation, api.Errno) {
	g, err := gen2.Load(s)
	if err != api.OK {
		return nil, err
	}
	return second{g}, api.OK
}

// transferred returns the other generation, with the state of g.
func transferred(g generation) (generation, api.Errno) {
	b, err := g.encoded()
	if err != api.OK {
		return nil, err
	}
	b, err = schema.Translate(b)
	if err != api.OK {
		return nil, err
	}
	return decoded(b)
}
