package model

import (
	"interregnum/api"
	"interregnum/pack"
)

// TakeNode returns the node whose encoding begins at the offset at, and the offset after it.
func TakeNode(b []byte, at int) (api.Node, int, api.Errno) {
	r := reader{b: b, at: at}
	var n api.Node
	n.Name = r.text()
	n.Cap = r.vector()
	n.Labels = r.labels()
	next, err := r.end(Node(n))
	if err != api.OK {
		return api.Node{}, 0, err
	}
	return n, next, api.OK
}

// TakeQueue returns the queue whose encoding begins at the offset at, and the offset after it.
func TakeQueue(b []byte, at int) (api.Queue, int, api.Errno) {
	r := reader{b: b, at: at}
	var q api.Queue
	q.Name = r.text()
	q.Quota = r.vector()
	next, err := r.end(Queue(q))
	if err != api.OK {
		return api.Queue{}, 0, err
	}
	return q, next, api.OK
}

// TakeTask returns the task whose encoding begins at the offset at, and the offset after it.
func TakeTask(b []byte, at int) (api.Task, int, api.Errno) {
	r := reader{b: b, at: at}
	var t api.Task
	t.Name = r.text()
	t.Queue = r.text()
	t.Prio = r.number()
	t.Need = r.vector()
	t.Wants = r.labels()
	t.Apart = r.text()
	t.Gang = r.text()
	t.Size = r.number()
	next, err := r.end(Task(t))
	if err != api.OK {
		return api.Task{}, 0, err
	}
	return t, next, api.OK
}

// reader is the state of reading: the bytes, the offset of what is read next, and the first error.
// After an error its methods read nothing more, and return zero values.
type reader struct {
	b   []byte
	at  int
	err api.Errno
}

// text reads a string of at most api.MaxName bytes.
func (r *reader) text() string {
	if r.err != api.OK {
		return ""
	}
	s, next, err := pack.TakeText(r.b, r.at, api.MaxName)
	r.at, r.err = next, err
	return s
}

// number reads a number of at most api.MaxRes.
func (r *reader) number() int {
	return r.upTo(api.MaxRes, api.ErrForm)
}

// upTo reads a number of at most most; a greater one is the error beyond.
func (r *reader) upTo(most uint64, beyond api.Errno) int {
	if r.err != api.OK {
		return 0
	}
	n, next, err := pack.Take(r.b, r.at)
	if n > most {
		n, err = 0, beyond
	}
	r.at, r.err = next, err
	return int(n)
}

func (r *reader) vector() api.Res {
	var a api.Res
	for i := range a {
		a[i] = r.number()
	}
	return a
}

// labels reads labels. Too many are refused by their number alone, whatever follows it.
func (r *reader) labels() []api.Label {
	count := r.upTo(api.MaxLabels, api.ErrLong)
	var l []api.Label
	for range count {
		var label api.Label
		label.Key = r.text()
		label.Value = r.text()
		l = append(l, label)
	}
	return l
}

// end returns the offset after what was read, or the first error. What was read without one may still not be valid.
func (r *reader) end(valid bool) (int, api.Errno) {
	if r.err != api.OK {
		return 0, r.err
	}
	if !valid {
		return 0, api.ErrForm
	}
	return r.at, api.OK
}
