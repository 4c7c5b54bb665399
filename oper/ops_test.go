package oper_test

import (
	"math"
	"slices"

	"interregnum/api"
)

const most = api.MaxRes

// The parts of an operation; each kind uses one of them, or nothing.
const (
	nothing = iota
	node
	queue
	task
	name
)

// kinds tells what each kind of operations uses. The numbers are those of the document.
func kinds() map[int]int {
	return map[int]int{1: node, 2: name, 3: queue, 4: name, 5: task, 6: name, 7: name, 8: name, 9: nothing}
}

// otherKinds are numbers that are no kinds; some would be, if a part of their bits were lost.
func otherKinds() []int {
	return []int{0, 10, 11, -1, -9, 255, 256, 256 + 9, 1<<16 + 6, 1<<32 + 1, 1<<32 + 9, math.MinInt, math.MinInt + 9, math.MaxInt}
}

func names() []string {
	return []string{"t", "0", "n-1", "a---------------", "0123456789abcdef"}
}

func wrongNames() []string {
	return []string{"", "T", "-t", "t t", "t\x00", "\u00fc", "\xff", "0123456789abcdefg"}
}

// labels makes labels of keys and values in turn.
func labels(words ...string) []api.Label {
	var l []api.Label
	for pair := range slices.Chunk(words, 2) {
		l = append(l, api.Label{Key: pair[0], Value: pair[1]})
	}
	return l
}

// samples returns valid operations of all kinds.
func samples() []api.Op {
	ops := []api.Op{
		{Kind: api.AddNode, Node: api.Node{Name: "n"}},
		{Kind: api.AddNode, Node: api.Node{Name: "n1", Cap: api.Res{4, 300, 0}, Labels: labels("gpu", "a")}},
		{Kind: api.AddNode, Node: api.Node{Name: "0123456789abcdef", Cap: api.Res{most, most, most}, Labels: labels("a", "1", "b", "2", "c", "3", "d", "4")}},
		{Kind: api.AddQueue, Queue: api.Queue{Name: "q"}},
		{Kind: api.AddQueue, Queue: api.Queue{Name: "q-2", Quota: api.Res{1, 256, most}}},
		{Kind: api.Submit, Task: api.Task{Name: "t", Queue: "q"}},
		{Kind: api.Submit, Task: api.Task{Name: "t", Queue: "q", Prio: 9, Need: api.Res{1, 2, 3}, Apart: "x", Gang: "g", Size: 3}},
		{Kind: api.Submit, Task: api.Task{Name: "0", Queue: "9", Prio: 1, Need: api.Res{0, 0, most}, Wants: labels("a", "1", "b", "2"), Gang: "g-2", Size: 2}},
		{Kind: api.Tick},
	}
	for kind, part := range kinds() {
		for _, s := range names() {
			if part == name {
				ops = append(ops, api.Op{Kind: kind, Name: s})
			}
		}
	}
	return ops
}

// wrong returns operations of existing kinds with what they use alone, which is not valid.
func wrong() []api.Op {
	var ops []api.Op
	for _, n := range []api.Node{{}, {Name: "N"}, {Cap: api.Res{1}}, {Name: "n", Cap: api.Res{-1, 0, 0}}, {Name: "n", Cap: api.Res{0, 0, most + 1}},
		{Name: "n", Labels: labels("b", "1", "a", "1")}, {Name: "n", Labels: labels("a", "1", "b", "1", "c", "1", "d", "1", "e", "1")}} {
		ops = append(ops, api.Op{Kind: api.AddNode, Node: n})
	}
	for _, q := range []api.Queue{{}, {Name: "-q"}, {Name: "q", Quota: api.Res{0, -1, 0}}, {Name: "q", Quota: api.Res{most + 1, 0, 0}}} {
		ops = append(ops, api.Op{Kind: api.AddQueue, Queue: q})
	}
	for _, t := range []api.Task{{}, {Name: "t"}, {Queue: "q"}, {Name: "t", Queue: "q", Prio: 10}, {Name: "t", Queue: "q", Prio: -1},
		{Name: "t", Queue: "q", Wants: labels("a", "")}, {Name: "t", Queue: "q", Apart: "A"}, {Name: "t", Queue: "q", Gang: "g", Size: 1}, {Name: "t", Queue: "q", Size: 2}} {
		ops = append(ops, api.Op{Kind: api.Submit, Task: t})
	}
	for kind, part := range kinds() {
		for _, s := range wrongNames() {
			if part == name {
				ops = append(ops, api.Op{Kind: kind, Name: s})
			}
		}
	}
	return ops
}

// extra sets one field of an operation, which belongs to a part.
type extra struct {
	part int
	set  func(o *api.Op)
}

func extras() []extra {
	return []extra{
		{node, func(o *api.Op) { o.Node.Name = "n" }},
		{node, func(o *api.Op) { o.Node.Cap[0] = 1 }},
		{node, func(o *api.Op) { o.Node.Cap[2] = -1 }},
		{node, func(o *api.Op) { o.Node.Labels = labels("a", "1") }},
		{node, func(o *api.Op) { o.Node.Labels = labels("", "") }},
		{queue, func(o *api.Op) { o.Queue.Name = "q" }},
		{queue, func(o *api.Op) { o.Queue.Quota[0] = 1 }},
		{queue, func(o *api.Op) { o.Queue.Quota[2] = -1 }},
		{task, func(o *api.Op) { o.Task.Name = "t" }},
		{task, func(o *api.Op) { o.Task.Queue = "q" }},
		{task, func(o *api.Op) { o.Task.Prio = 1 }},
		{task, func(o *api.Op) { o.Task.Prio = -1 }},
		{task, func(o *api.Op) { o.Task.Need[0] = 1 }},
		{task, func(o *api.Op) { o.Task.Need[2] = 1 }},
		{task, func(o *api.Op) { o.Task.Wants = labels("a", "1") }},
		{task, func(o *api.Op) { o.Task.Wants = labels("", "") }},
		{task, func(o *api.Op) { o.Task.Apart = "x" }},
		{task, func(o *api.Op) { o.Task.Gang = "g" }},
		{task, func(o *api.Op) { o.Task.Size = 2 }},
		{name, func(o *api.Op) { o.Name = "t" }},
		{name, func(o *api.Op) { o.Name = "\x00" }},
		{node, func(o *api.Op) { o.Node = api.Node{Name: "n", Cap: api.Res{1, 2, 3}, Labels: labels("a", "1")} }},
		{queue, func(o *api.Op) { o.Queue = api.Queue{Name: "q", Quota: api.Res{1, 2, 3}} }},
		{task, func(o *api.Op) { o.Task = api.Task{Name: "t", Queue: "q"} }},
	}
}

// overloaded returns samples in which one field is set that their kind does not use.
func overloaded() []api.Op {
	var ops []api.Op
	for _, o := range samples() {
		for _, x := range extras() {
			if x.part != kinds()[o.Kind] {
				more := o
				x.set(&more)
				ops = append(ops, more)
			}
		}
	}
	return ops
}

// withEmptyLists returns o with lists that are empty, but not nil, where it has none.
func withEmptyLists(o api.Op) api.Op {
	if o.Node.Labels == nil {
		o.Node.Labels = []api.Label{}
	}
	if o.Task.Wants == nil {
		o.Task.Wants = []api.Label{}
	}
	return o
}

// clone returns o with labels of its own.
func clone(o api.Op) api.Op {
	o.Node.Labels = slices.Clone(o.Node.Labels)
	o.Task.Wants = slices.Clone(o.Task.Wants)
	return o
}

func same(o, p api.Op) bool {
	return o.Kind == p.Kind && o.Queue == p.Queue && o.Name == p.Name &&
		o.Node.Name == p.Node.Name && o.Node.Cap == p.Node.Cap && slices.Equal(o.Node.Labels, p.Node.Labels) &&
		o.Task.Name == p.Task.Name && o.Task.Queue == p.Task.Queue && o.Task.Prio == p.Task.Prio && o.Task.Need == p.Task.Need &&
		slices.Equal(o.Task.Wants, p.Task.Wants) && o.Task.Apart == p.Task.Apart && o.Task.Gang == p.Task.Gang && o.Task.Size == p.Task.Size
}
