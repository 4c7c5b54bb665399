package model_test

import (
	"slices"
	"strings"
	"testing"

	"interregnum/api"
	"interregnum/model"
	"interregnum/pack"
)

const most = api.MaxRes

// kind is what the tests of nodes, queues and tasks need of them. In the layout, s stands for a string, n for a number, l for labels.
type kind[T any] struct {
	layout  string
	valid   func(v T) bool
	put     func(b []byte, v T) []byte
	take    func(b []byte, at int) (T, int, api.Errno)
	same    func(v, w T) bool
	build   func(p pieces) T
	samples []T
	wrong   []T
}

// pieces are what an encoding tells, in order.
type pieces struct {
	texts   []string
	numbers []int
	labels  []api.Label
}

func nodes() kind[api.Node] {
	return kind[api.Node]{
		layout: "snnnl",
		valid:  model.Node,
		put:    model.PutNode,
		take:   model.TakeNode,
		same: func(v, w api.Node) bool {
			return v.Name == w.Name && v.Cap == w.Cap && slices.Equal(v.Labels, w.Labels)
		},
		build: func(p pieces) api.Node {
			return api.Node{Name: p.texts[0], Cap: api.Res(p.numbers), Labels: p.labels}
		},
		samples: []api.Node{
			{Name: "n"},
			{Name: "n", Labels: []api.Label{}},
			{Name: "n1", Cap: api.Res{4, 300, 0}, Labels: labels("gpu", "a")},
			{Name: "n-2", Cap: api.Res{1, 2, 3}, Labels: labels("a", "1", "b", "2")},
			{Name: "0123456789abcdef", Cap: api.Res{most, most, most},
				Labels: labels("aaaaaaaaaaaaaaaa", "z", "b", "0123456789abcdef", "c", "c", "d", "0")},
		},
		wrong: []api.Node{
			{},
			{Name: "N"},
			{Name: "n", Cap: api.Res{-1, 0, 0}},
			{Name: "n", Cap: api.Res{0, 0, most + 1}},
			{Name: "n", Labels: labels("b", "1", "a", "1")},
			{Name: "n", Labels: labels("a", "1", "b", "1", "c", "1", "d", "1", "e", "1")},
		},
	}
}

func queues() kind[api.Queue] {
	return kind[api.Queue]{
		layout: "snnn",
		valid:  model.Queue,
		put:    model.PutQueue,
		take:   model.TakeQueue,
		same:   func(v, w api.Queue) bool { return v == w },
		build: func(p pieces) api.Queue {
			return api.Queue{Name: p.texts[0], Quota: api.Res(p.numbers)}
		},
		samples: []api.Queue{
			{Name: "q"},
			{Name: "q", Quota: api.Res{1, 0, 0}},
			{Name: "q-2", Quota: api.Res{255, 256, 65536}},
			{Name: "0123456789abcdef", Quota: api.Res{most, most, most}},
		},
		wrong: []api.Queue{
			{},
			{Name: "-q"},
			{Name: "q", Quota: api.Res{0, -1, 0}},
			{Name: "q", Quota: api.Res{most + 1, 0, 0}},
		},
	}
}

func tasks() kind[api.Task] {
	return kind[api.Task]{
		layout: "ssnnnnlssn",
		valid:  model.Task,
		put:    model.PutTask,
		take:   model.TakeTask,
		same: func(v, w api.Task) bool {
			return v.Name == w.Name && v.Queue == w.Queue && v.Prio == w.Prio && v.Need == w.Need && slices.Equal(v.Wants, w.Wants) &&
				v.Apart == w.Apart && v.Gang == w.Gang && v.Size == w.Size
		},
		build: func(p pieces) api.Task {
			return api.Task{Name: p.texts[0], Queue: p.texts[1], Prio: p.numbers[0], Need: api.Res(p.numbers[1:4]), Wants: p.labels,
				Apart: p.texts[2], Gang: p.texts[3], Size: p.numbers[4]}
		},
		samples: []api.Task{
			{Name: "t", Queue: "q"},
			{Name: "t", Queue: "q", Prio: 9, Need: api.Res{1, 2, 3}, Apart: "x", Gang: "g", Size: 3},
			{Name: "t1", Queue: "q1", Prio: 1, Wants: labels("gpu", "a"), Apart: "t1"},
			{Name: "t2", Queue: "q2", Need: api.Res{0, 0, 256}, Wants: labels("a", "1", "b", "2"), Gang: "g-2", Size: 2},
			{Name: "0123456789abcdef", Queue: "abcdefghijklmnop", Prio: 5, Need: api.Res{most, most, most},
				Wants: labels("a", "0123456789abcdef", "b", "b", "c", "c", "dddddddddddddddd", "0"),
				Apart: "q---------------", Gang: "9---------------", Size: 4},
		},
		wrong: []api.Task{
			{},
			{Name: "t"},
			{Queue: "q"},
			{Name: "t", Queue: "Q"},
			{Name: "t", Queue: "q", Prio: -1},
			{Name: "t", Queue: "q", Prio: 10},
			{Name: "t", Queue: "q", Need: api.Res{0, 0, -1}},
			{Name: "t", Queue: "q", Wants: labels("a", "")},
			{Name: "t", Queue: "q", Apart: "A"},
			{Name: "t", Queue: "q", Gang: "g", Size: 1},
			{Name: "t", Queue: "q", Gang: "g", Size: 5},
			{Name: "t", Queue: "q", Gang: "g"},
			{Name: "t", Queue: "q", Size: 2},
		},
	}
}

// labels makes labels of keys and values in turn.
func labels(words ...string) []api.Label {
	var l []api.Label
	for pair := range slices.Chunk(words, 2) {
		l = append(l, api.Label{Key: pair[0], Value: pair[1]})
	}
	return l
}

// code returns the encodings of the numbers and strings that are given.
func code(parts ...any) string {
	var b []byte
	for _, part := range parts {
		switch part := part.(type) {
		case int:
			b = pack.Put(b, uint64(part))
		case string:
			b = pack.PutText(b, part)
		}
	}
	return string(b)
}

// read reads the pieces of a layout, and returns the first error of the contract.
func read(b []byte, at int, layout string) (pieces, int, api.Errno) {
	var p pieces
	var err api.Errno
	for _, piece := range layout {
		switch piece {
		case 's':
			var s string
			s, at, err = pack.TakeText(b, at, 16)
			p.texts = append(p.texts, s)
		case 'n':
			var n uint64
			n, at, err = pack.Take(b, at)
			if err == api.OK && n > 1<<20 {
				err = api.ErrForm
			}
			p.numbers = append(p.numbers, int(n))
		case 'l':
			p.labels, at, err = readLabels(b, at)
		}
		if err != api.OK {
			return pieces{}, 0, err
		}
	}
	return p, at, api.OK
}

func readLabels(b []byte, at int) ([]api.Label, int, api.Errno) {
	n, at, err := pack.Take(b, at)
	if err != api.OK {
		return nil, 0, err
	}
	if n > 4 {
		return nil, 0, api.ErrLong
	}
	p, at, err := read(b, at, strings.Repeat("ss", int(n)))
	return labels(p.texts...), at, err
}

// mustTake fails the test if what is taken is not what the contract says.
func mustTake[T any](t *testing.T, k kind[T], b []byte, at int) {
	t.Helper()
	var want T
	p, end, wantErr := read(b, at, k.layout)
	if wantErr == api.OK {
		if want = k.build(p); !k.valid(want) {
			want, end, wantErr = *new(T), 0, api.ErrForm
		}
	}
	v, next, err := k.take(b, at)
	if !k.same(v, want) || next != end || err != wantErr {
		t.Fatalf("taken from %q at %d: %+v, %d, %d, not %+v, %d, %d", b, at, v, next, err, want, end, wantErr)
	}
}

// mustFail fails the test if anything but this error is taken.
func mustFail[T any](t *testing.T, k kind[T], b []byte, at int, want api.Errno) {
	t.Helper()
	v, next, err := k.take(b, at)
	if !k.same(v, *new(T)) || next != 0 || err != want {
		t.Errorf("taken from %q at %d: %+v, %d, %d, not error %d", b, at, v, next, err, want)
	}
}
