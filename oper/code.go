package oper

import (
	"interregnum/api"
	"interregnum/ident"
	"interregnum/model"
	"interregnum/pack"
)

// Encode returns the encoding of o: its kind, and what the kind uses.
func Encode(o api.Op) ([]byte, api.Errno) {
	if !Right(o) {
		return nil, api.ErrArg
	}
	b := pack.Put(nil, uint64(o.Kind))
	switch o.Kind {
	case api.AddNode:
		b = model.PutNode(b, o.Node)
	case api.AddQueue:
		b = model.PutQueue(b, o.Queue)
	case api.Submit:
		b = model.PutTask(b, o.Task)
	case api.DropNode, api.DropQueue, api.Cancel, api.Finish, api.Beat:
		b = pack.PutText(b, o.Name)
	}
	return b, api.OK
}

// Decode returns the operation with the encoding b.
func Decode(b []byte) (api.Op, api.Errno) {
	o, end, err := take(b)
	if err == api.OK && end != len(b) {
		err = api.ErrForm
	}
	if err != api.OK {
		return api.Op{}, err
	}
	return o, api.OK
}

// take returns the operation with whose encoding b begins, and the offset after it.
func take(b []byte) (api.Op, int, api.Errno) {
	kind, at, err := pack.Take(b, 0)
	if err != api.OK {
		return api.Op{}, 0, err
	}
	var o api.Op
	// The kind is converted only once it is known to exist, because not every uint64 is an int.
	switch kind {
	case api.AddNode:
		o.Node, at, err = model.TakeNode(b, at)
	case api.AddQueue:
		o.Queue, at, err = model.TakeQueue(b, at)
	case api.Submit:
		o.Task, at, err = model.TakeTask(b, at)
	case api.DropNode, api.DropQueue, api.Cancel, api.Finish, api.Beat:
		o.Name, at, err = takeName(b, at)
	case api.Tick:
		// Nothing follows.
	default:
		return api.Op{}, 0, api.ErrForm
	}
	o.Kind = int(kind)
	return o, at, err
}

// takeName returns the name whose encoding begins at the offset at, and the offset after it.
func takeName(b []byte, at int) (string, int, api.Errno) {
	name, next, err := pack.TakeText(b, at, api.MaxName)
	if err == api.OK && !ident.Name(name) {
		err = api.ErrForm
	}
	return name, next, err
}
