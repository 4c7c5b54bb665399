package model_test

import (
	"slices"
	"testing"

	"interregnum/api"
	"interregnum/model"
)

// surroundings are bytes that may stand before or after an encoding.
func surroundings() []string {
	return []string{"", "\x00", "\x09", "\x01\x00", "\x08", "\xff\xff\xff", "\x01\x01q\x01\x01\x00\x00"}
}

func mustEncode[T any](t *testing.T, k kind[T], v T, want string) {
	t.Helper()
	for _, before := range surroundings() {
		if b := k.put([]byte(before), v); string(b) != before+want {
			t.Errorf("%+v after %q: %q, not %q", v, before, b, before+want)
		}
	}
}

func TestNodesAreEncoded(t *testing.T) {
	mustEncode(t, nodes(), api.Node{Name: "n"}, "\x01\x01n\x00\x00\x00\x00")
	mustEncode(t, nodes(), api.Node{Name: "n", Labels: []api.Label{}}, "\x01\x01n\x00\x00\x00\x00")
	mustEncode(t, nodes(), api.Node{Name: "n1", Cap: api.Res{4, 300, 0}, Labels: labels("gpu", "a")},
		"\x01\x02n1\x01\x04\x02\x01\x2c\x00\x01\x01\x01\x03gpu\x01\x01a")
	mustEncode(t, nodes(), api.Node{Name: "0123456789abcdef", Cap: api.Res{most, 255, 256}, Labels: labels("a", "b", "c", "d")},
		"\x01\x100123456789abcdef\x03\x10\x00\x00\x01\xff\x02\x01\x00\x01\x02\x01\x01a\x01\x01b\x01\x01c\x01\x01d")
}

func TestQueuesAreEncoded(t *testing.T) {
	mustEncode(t, queues(), api.Queue{Name: "q"}, "\x01\x01q\x00\x00\x00")
	mustEncode(t, queues(), api.Queue{Name: "q", Quota: api.Res{1, 0, 0}}, "\x01\x01q\x01\x01\x00\x00")
	mustEncode(t, queues(), api.Queue{Name: "a-b", Quota: api.Res{0, most, 7}}, "\x01\x03a-b\x00\x03\x10\x00\x00\x01\x07")
}

func TestTasksAreEncoded(t *testing.T) {
	mustEncode(t, tasks(), api.Task{Name: "t", Queue: "q"}, "\x01\x01t\x01\x01q\x00\x00\x00\x00\x00\x00\x00\x00")
	mustEncode(t, tasks(), api.Task{Name: "t", Queue: "qq", Prio: 9, Need: api.Res{1, 2, 300}, Wants: labels("k", "v"), Apart: "x", Gang: "g", Size: 3},
		"\x01\x01t\x01\x02qq\x01\x09\x01\x01\x01\x02\x02\x01\x2c\x01\x01\x01\x01k\x01\x01v\x01\x01x\x01\x01g\x01\x03")
	mustEncode(t, tasks(), api.Task{Name: "t", Queue: "q", Wants: labels("a", "1", "b", "2", "c", "3", "d", "4"), Apart: "t"},
		"\x01\x01t\x01\x01q\x00\x00\x00\x00\x01\x04\x01\x01a\x01\x011\x01\x01b\x01\x012\x01\x01c\x01\x013\x01\x01d\x01\x014\x01\x01t\x00\x00")
}

func mustLeaveAlone[T any](t *testing.T, k kind[T]) {
	for _, v := range k.wrong {
		mustEncode(t, k, v, "")
	}
}

func TestOthersAreNotEncoded(t *testing.T) {
	mustLeaveAlone(t, nodes())
	mustLeaveAlone(t, queues())
	mustLeaveAlone(t, tasks())
	for name, named := range names() {
		for capacity, right := range vectors() {
			for _, list := range labelLists() {
				n := api.Node{Name: name, Cap: capacity, Labels: list.l}
				if b := model.PutNode([]byte("ab"), n); len(b) > 2 != (named && right && list.ok) || string(b[:2]) != "ab" {
					t.Fatalf("PutNode of %+v: %q", n, b)
				}
			}
			q := api.Queue{Name: name, Quota: capacity}
			if b := model.PutQueue([]byte("ab"), q); len(b) > 2 != (named && right) || string(b[:2]) != "ab" {
				t.Fatalf("PutQueue of %+v: %q", q, b)
			}
		}
	}
	for g, together := range gangs() {
		k := api.Task{Name: "t", Queue: "q", Gang: g.name, Size: g.size}
		if b := model.PutTask([]byte("ab"), k); len(b) > 2 != together || string(b[:2]) != "ab" {
			t.Fatalf("PutTask of %+v: %q", k, b)
		}
	}
}

func mustPutIntoNewMemory[T any](t *testing.T, k kind[T]) {
	for _, v := range slices.Concat(k.samples, k.wrong) {
		whole := []byte("beforebeyond" + string(make([]byte, 500)))
		kept := slices.Clone(whole)
		one, other := k.put(whole[:6], v), k.put(whole[:6], v)
		want := slices.Clone(one)
		if !slices.Equal(whole, kept) {
			t.Errorf("%+v: the memory of the bytes before it became %q", v, whole)
		}
		for i := range whole {
			whole[i] = 'x'
		}
		if !slices.Equal(one, want) {
			t.Errorf("%+v: what was put became %q with the argument", v, one)
		}
		for i := range one {
			one[i] = 'y'
		}
		_ = append(one, "zzzzzzzz"...)
		if !slices.Equal(other, want) || slices.Contains(whole, 'y') || slices.Contains(whole, 'z') {
			t.Errorf("%+v: writing to a result changed %q or %q", v, other, whole)
		}
	}
}

func TestPuttingIsIntoNewMemory(t *testing.T) {
	mustPutIntoNewMemory(t, nodes())
	mustPutIntoNewMemory(t, queues())
	mustPutIntoNewMemory(t, tasks())
}

func TestPuttingLeavesTheLabels(t *testing.T) {
	whole := labels("a", "1", "b", "2", "c", "3", "d", "4", "e", "5", "a", "6")
	kept := slices.Clone(whole)
	for start := range whole {
		for end := start; end <= len(whole); end++ {
			n := api.Node{Name: "n", Labels: whole[start:end]}
			k := api.Task{Name: "t", Queue: "q", Wants: whole[start:end]}
			model.Node(n)
			model.Task(k)
			model.PutNode(nil, n)
			model.PutTask(nil, k)
		}
	}
	if !slices.Equal(whole, kept) {
		t.Errorf("the labels became %q", whole)
	}
}

func TestLabelsBeyondTheLengthAreNotRead(t *testing.T) {
	whole := labels("a", "1", "b", "2", "a", "3", "", "")
	mustEncode(t, nodes(), api.Node{Name: "n", Labels: whole[:2]}, "\x01\x01n\x00\x00\x00\x01\x02\x01\x01a\x01\x011\x01\x01b\x01\x012")
	mustEncode(t, nodes(), api.Node{Name: "n", Labels: whole[:0]}, "\x01\x01n\x00\x00\x00\x00")
	mustEncode(t, nodes(), api.Node{Name: "n", Labels: whole[:3]}, "")
}

func mustPutAfterNil[T any](t *testing.T, k kind[T]) {
	for _, v := range slices.Concat(k.samples, k.wrong) {
		if one, other := k.put(nil, v), k.put([]byte{}, v); !slices.Equal(one, other) {
			t.Errorf("%+v: %q after nil, %q after no bytes", v, one, other)
		}
	}
}

func TestNilIsLikeEmpty(t *testing.T) {
	mustPutAfterNil(t, nodes())
	mustPutAfterNil(t, queues())
	mustPutAfterNil(t, tasks())
	for at := -1; at <= 1; at++ {
		want := api.ErrArg
		if at == 0 {
			want = api.ErrShort
		}
		for _, b := range [][]byte{nil, {}} {
			mustFail(t, nodes(), b, at, want)
			mustFail(t, queues(), b, at, want)
			mustFail(t, tasks(), b, at, want)
		}
	}
}
