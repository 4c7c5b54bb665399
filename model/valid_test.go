package model_test

import (
	"math"
	"testing"

	"interregnum/api"
	"interregnum/model"
)

// The maps of this file tell what is valid.

func names() map[string]bool {
	return map[string]bool{
		"a": true, "0": true, "n-1": true, "0123456789abcdef": true, "a---------------": true,
		"": false, "A": false, "nA": false, "-a": false, "-": false, "a b": false, "a\x00": false, "\u00fc": false, "0123456789abcdefg": false,
	}
}

func vectors() map[api.Res]bool {
	return map[api.Res]bool{
		{}: true, {1, 2, 3}: true, {most, 0, 0}: true, {most, most, most}: true,
		{-1, 0, 0}: false, {0, -1, 0}: false, {0, 0, -1}: false, {most + 1, 0, 0}: false, {0, most + 1, 0}: false, {0, 0, most + 1}: false,
		{math.MinInt, 0, 0}: false, {0, 0, math.MaxInt}: false,
	}
}

type listed struct {
	l  []api.Label
	ok bool
}

func labelLists() []listed {
	return []listed{
		{nil, true},
		{[]api.Label{}, true},
		{labels("gpu", "a"), true},
		{labels("a", "1", "b", "1", "c", "1", "d", "1"), true},
		{labels("a", "1", "b", "1", "c", "1", "d", "1", "e", "1"), false},
		{labels("b", "1", "a", "1"), false},
		{labels("a", "1", "a", "2"), false},
		{labels("a", ""), false},
		{labels("", "a"), false},
		{labels("a", "1", "B", "1"), false},
		{labels("a", "-"), false},
	}
}

func prios() map[int]bool {
	return map[int]bool{0: true, 1: true, 8: true, 9: true, -1: false, 10: false, 11: false, 256: false, math.MinInt: false, math.MaxInt: false}
}

func aparts() map[string]bool {
	all := names()
	all[""] = true
	return all
}

type gang struct {
	name string
	size int
}

func gangs() map[gang]bool {
	all := map[gang]bool{}
	for _, size := range []int{math.MinInt, -2, -1, 0, 1, 2, 3, 4, 5, 6, 16, most, math.MaxInt} {
		for name, ok := range names() {
			all[gang{name, size}] = ok && size >= 2 && size <= 4
		}
		all[gang{"", size}] = size == 0
	}
	return all
}

func TestNodesAreValid(t *testing.T) {
	for name, named := range names() {
		for capacity, right := range vectors() {
			for _, list := range labelLists() {
				n := api.Node{Name: name, Cap: capacity, Labels: list.l}
				if got := model.Node(n); got != (named && right && list.ok) {
					t.Errorf("Node(%+v) = %t", n, got)
				}
			}
		}
	}
}

func TestQueuesAreValid(t *testing.T) {
	for name, named := range names() {
		for quota, right := range vectors() {
			q := api.Queue{Name: name, Quota: quota}
			if got := model.Queue(q); got != (named && right) {
				t.Errorf("Queue(%+v) = %t", q, got)
			}
		}
	}
}

func mustBeTask(t *testing.T, k api.Task, want bool) {
	t.Helper()
	if got := model.Task(k); got != want {
		t.Errorf("Task(%+v) = %t", k, got)
	}
}

func TestTasksAreValid(t *testing.T) {
	for name, named := range names() {
		for queue, queued := range names() {
			mustBeTask(t, api.Task{Name: name, Queue: queue}, named && queued)
		}
	}
	for prio, ranked := range prios() {
		for need, right := range vectors() {
			for _, list := range labelLists() {
				mustBeTask(t, api.Task{Name: "t", Queue: "q", Prio: prio, Need: need, Wants: list.l}, ranked && right && list.ok)
			}
		}
	}
	for apart, kept := range aparts() {
		for g, together := range gangs() {
			k := api.Task{Name: "t", Queue: "q", Apart: apart, Gang: g.name, Size: g.size}
			mustBeTask(t, k, kept && together)
			k.Prio, k.Need, k.Wants = 9, api.Res{1, 2, 3}, labels("a", "1")
			mustBeTask(t, k, kept && together)
			k.Prio = 10
			mustBeTask(t, k, false)
		}
	}
}

func mustBeTold[T any](t *testing.T, k kind[T]) {
	for _, v := range k.samples {
		if !k.valid(v) {
			t.Errorf("%+v is not valid", v)
		}
	}
	for _, v := range k.wrong {
		if k.valid(v) {
			t.Errorf("%+v is valid", v)
		}
	}
}

func TestSamplesAreValidAndWrongOnesAreNot(t *testing.T) {
	mustBeTold(t, nodes())
	mustBeTold(t, queues())
	mustBeTold(t, tasks())
}

func TestExamplesOfTheChapter(t *testing.T) {
	for _, n := range []api.Node{{Name: "N"}, {Name: "nodE"}, {Name: "n", Cap: api.Res{-1, 0, 0}}, {Name: "n", Cap: api.Res{0, 0, -1}}} {
		if model.Node(n) {
			t.Errorf("%+v is valid", n)
		}
	}
	k := api.Task{Name: "t", Queue: "q", Gang: "g", Size: 1}
	if model.Task(k) || len(model.PutTask(nil, k)) != 0 {
		t.Error("a gang of one is valid")
	}
	if b := model.PutQueue(nil, api.Queue{Name: "q", Quota: api.Res{1, 0, 0}}); string(b) != "\x01\x01q\x01\x01\x00\x00" {
		t.Errorf("the encoding of a queue is %q", b)
	}
	k.Size = 2
	b := model.PutTask(nil, k)
	mustFail(t, tasks(), b[:len(b)-1], 0, api.ErrShort)
}
