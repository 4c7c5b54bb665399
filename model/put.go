package model

import (
	"slices"

	"interregnum/api"
	"interregnum/pack"
)

// PutNode returns b followed by the encoding of n, or b alone if n is not valid.
func PutNode(b []byte, n api.Node) []byte {
	// What is encoded is put together apart from b, because each piece copies what is before it.
	var code []byte
	if Node(n) {
		code = pack.PutText(code, n.Name)
		code = putVector(code, n.Cap)
		code = putLabels(code, n.Labels)
	}
	return slices.Concat(b, code)
}

// PutQueue returns b followed by the encoding of q, or b alone if q is not valid.
func PutQueue(b []byte, q api.Queue) []byte {
	var code []byte
	if Queue(q) {
		code = pack.PutText(code, q.Name)
		code = putVector(code, q.Quota)
	}
	return slices.Concat(b, code)
}

// PutTask returns b followed by the encoding of t, or b alone if t is not valid.
func PutTask(b []byte, t api.Task) []byte {
	var code []byte
	if Task(t) {
		code = pack.PutText(code, t.Name)
		code = pack.PutText(code, t.Queue)
		code = putNumber(code, t.Prio)
		code = putVector(code, t.Need)
		code = putLabels(code, t.Wants)
		code = pack.PutText(code, t.Apart)
		code = pack.PutText(code, t.Gang)
		code = putNumber(code, t.Size)
	}
	return slices.Concat(b, code)
}

// putNumber returns b followed by the encoding of n, which must not be negative.
func putNumber(b []byte, n int) []byte {
	return pack.Put(b, uint64(n))
}

func putVector(b []byte, a api.Res) []byte {
	for _, n := range a {
		b = putNumber(b, n)
	}
	return b
}

func putLabels(b []byte, l []api.Label) []byte {
	b = putNumber(b, len(l))
	for _, label := range l {
		b = pack.PutText(pack.PutText(b, label.Key), label.Value)
	}
	return b
}
