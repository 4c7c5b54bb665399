package oper_test

import (
	"math"
	"slices"
	"strings"
	"testing"

	"interregnum/api"
	"interregnum/oper"
)

func TestSamplesAreRight(t *testing.T) {
	seen := map[int]bool{}
	for _, o := range samples() {
		seen[o.Kind] = true
		if !oper.Right(o) || !oper.Right(withEmptyLists(o)) {
			t.Errorf("%+v is not right", o)
		}
	}
	for kind := range kinds() {
		if !seen[kind] {
			t.Errorf("there is no sample of kind %d", kind)
		}
	}
}

func TestOperationsOfOtherKindsAreNotRight(t *testing.T) {
	for _, kind := range otherKinds() {
		for _, o := range append(samples(), api.Op{}) {
			o.Kind = kind
			if oper.Right(o) {
				t.Errorf("%+v is right", o)
			}
		}
	}
}

func TestOperationsAreOfTheirOwnKindOnly(t *testing.T) {
	for _, o := range samples() {
		part := kinds()[o.Kind]
		for kind, other := range kinds() {
			changed := o
			changed.Kind = kind
			if got := oper.Right(changed); got != (other == part) {
				t.Errorf("Right(%+v) = %t", changed, got)
			}
		}
	}
}

func TestWhatIsUsedMustBeValid(t *testing.T) {
	for _, o := range wrong() {
		if oper.Right(o) {
			t.Errorf("%+v is right", o)
		}
	}
}

func TestWhatIsNotUsedMustBeZero(t *testing.T) {
	ops := overloaded()
	if len(ops) < 200 {
		t.Fatalf("%d operations", len(ops))
	}
	for _, o := range ops {
		if oper.Right(o) {
			t.Errorf("%+v is right", o)
		}
	}
}

func TestTextsOfActs(t *testing.T) {
	words := map[int]string{1: "bind", 2: "evict", 3: "release", 0: "?", 4: "?", -1: "?", 258: "?", 1<<32 + 2: "?", math.MinInt: "?", math.MaxInt: "?"}
	long := strings.Repeat("x", 5000)
	for kind, word := range words {
		for _, c := range []struct{ task, node, want string }{
			{"t", "n", " t n"},
			{"n", "t", " n t"},
			{"task-1", "node-2", " task-1 node-2"},
			{"", "", "  "},
			{"t", "", " t "},
			{"", "n", "  n"},
			{" a ", "\xff\x00%d\n", "  a  \xff\x00%d\n"},
			{long, long, " " + long + " " + long},
		} {
			a := api.Act{Kind: kind, Task: c.task, Node: c.node}
			if got := oper.Text(a); got != word+c.want {
				t.Errorf("Text(%+v) = %q, not %q", a, got, word+c.want)
			}
		}
	}
}

// answers returns answers of which each one differs from all others.
func answers() []api.Answer {
	bind := api.Act{Kind: api.Bind, Task: "t", Node: "n"}
	evict := api.Act{Kind: api.Evict, Task: "t", Node: "n"}
	return []api.Answer{
		{},
		{Err: api.ErrArg},
		{Err: api.ErrPhase},
		{Err: -1},
		{Err: 256},
		{Acts: []api.Act{{}}},
		{Acts: []api.Act{{}, {}}},
		{Acts: []api.Act{bind}},
		{Acts: []api.Act{evict}},
		{Acts: []api.Act{{Kind: api.Release, Task: "t", Node: "n"}}},
		{Acts: []api.Act{{Kind: 77, Task: "t", Node: "n"}}},
		{Acts: []api.Act{{Kind: 78, Task: "t", Node: "n"}}},
		{Acts: []api.Act{{Kind: api.Bind, Task: "t", Node: "m"}}},
		{Acts: []api.Act{{Kind: api.Bind, Task: "s", Node: "n"}}},
		{Acts: []api.Act{{Kind: api.Bind, Task: "n", Node: "t"}}},
		{Acts: []api.Act{{Kind: api.Bind, Task: "t n", Node: ""}}},
		{Acts: []api.Act{{Kind: api.Bind, Task: "", Node: "t n"}}},
		{Acts: []api.Act{bind, evict}},
		{Acts: []api.Act{evict, bind}},
		{Acts: []api.Act{bind, bind}},
		{Acts: []api.Act{bind, evict, bind}},
		{Acts: []api.Act{bind, bind, evict}},
		{Err: api.ErrQuota, Acts: []api.Act{bind}},
		{Err: api.ErrFull, Acts: []api.Act{bind}},
	}
}

func TestAnswersAreTheSame(t *testing.T) {
	others := answers()
	for i, a := range answers() {
		for j, b := range others {
			if got := oper.Same(a, b); got != (i == j) {
				t.Errorf("Same(%+v, %+v) = %t", a, b, got)
			}
		}
	}
}

func TestNoActsAreLikeEmptyActs(t *testing.T) {
	for _, err := range []api.Errno{api.OK, api.ErrDup} {
		none, empty := api.Answer{Err: err}, api.Answer{Err: err, Acts: []api.Act{}}
		if !oper.Same(none, empty) || !oper.Same(empty, none) || !oper.Same(empty, empty) {
			t.Errorf("with error %d, nil and empty acts are not the same", err)
		}
	}
}

func TestActsBeyondTheLengthAreNotRead(t *testing.T) {
	one := []api.Act{{Kind: api.Bind, Task: "t", Node: "n"}, {Kind: api.Evict, Task: "s", Node: "n"}}
	other := []api.Act{one[0], {Kind: api.Evict, Task: "x", Node: "n"}}
	if !oper.Same(api.Answer{Acts: one[:1]}, api.Answer{Acts: other[:1]}) {
		t.Error("acts differ by what is beyond their length")
	}
	if oper.Same(api.Answer{Acts: one[:1]}, api.Answer{Acts: one}) {
		t.Error("one act is the same as two")
	}
}

func TestReportingLeavesTheArguments(t *testing.T) {
	for _, o := range slices.Concat(samples(), wrong(), overloaded()) {
		kept := clone(o)
		oper.Right(o)
		if !same(o, kept) {
			t.Errorf("%+v became %+v", kept, o)
		}
	}
	changed, kept := answers(), answers()
	for i := range changed {
		for j := range changed {
			oper.Same(changed[i], changed[j])
		}
	}
	for i := range changed {
		if changed[i].Err != kept[i].Err || !slices.Equal(changed[i].Acts, kept[i].Acts) {
			t.Errorf("%+v became %+v", kept[i], changed[i])
		}
	}
}
