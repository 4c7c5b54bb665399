package schema_test

import (
	"math"
	"reflect"
	"slices"
	"testing"

	"interregnum/api"
	"interregnum/schema"
)

// spoil writes to all memory of a state.
func spoil(s api.State) {
	for i := range s.Machines {
		clear(s.Machines[i].Node.Labels)
		_ = append(s.Machines[i].Node.Labels, b2)
	}
	for i := range s.Jobs {
		clear(s.Jobs[i].Task.Wants)
		_ = append(s.Jobs[i].Task.Wants, b2)
	}
	clear(s.Machines)
	clear(s.Queues)
	clear(s.Jobs)
	_ = append(s.Machines, api.Machine{Until: 99})
	_ = append(s.Queues, api.Queue{Name: "z"})
	_ = append(s.Jobs, api.Job{Seq: 99})
}

// must returns what a call returns without an error.
func must[T any](t *testing.T) func(v T, err api.Errno) T {
	return func(v T, err api.Errno) T {
		t.Helper()
		if err != api.OK {
			t.Fatalf("the error %d", err)
		}
		return v
	}
}

func mustDecode(t *testing.T, b []byte) api.State {
	t.Helper()
	s, _, err := schema.Decode(b)
	return must[api.State](t)(s, err)
}

func TestNoCallPanics(t *testing.T) {
	extremes := []int{math.MinInt, -1, 0, 1, 1 << 40, math.MaxInt}
	for _, n := range extremes {
		for _, m := range extremes {
			s := rich()
			s.Clock, s.Next, s.Machines[1].Until, s.Jobs[0].Bound, s.Jobs[1].Seq = n, m, m, n, m
			s.Jobs[3].Task.Need, s.Machines[2].Node.Cap = api.Res{n, m, n}, api.Res{m, n, m}
			_, _ = schema.Encode1(s)
			_, _ = schema.Encode2(s)
		}
	}
	many := api.State{Clock: 1, Next: 1, Machines: make([]api.Machine, 100), Queues: make([]api.Queue, 100), Jobs: make([]api.Job, 100)}
	if b, err := schema.Encode1(many); len(b) > 0 || err != api.ErrArg {
		t.Errorf("Encode1 = %q, %d", b, err)
	}
	if b, err := schema.Encode2(many); len(b) > 0 || err != api.ErrArg {
		t.Errorf("Encode2 = %q, %d", b, err)
	}
	roll := dice(213)
	for range 2000 {
		b := make([]byte, roll(60))
		for i := range b {
			b[i] = byte(roll(1 + roll(256)))
		}
		mustAgree(t, b)
		mustAgree(t, append([]byte{1, byte(1 + roll(2))}, b...))
	}
}

func TestArgumentsStayAsTheyAre(t *testing.T) {
	s := rich()
	one, other := must[[]byte](t)(schema.Encode1(s)), must[[]byte](t)(schema.Encode2(s))
	if !reflect.DeepEqual(s, rich()) {
		t.Errorf("the state became %+v", s)
	}
	for _, b := range [][]byte{one, other, one[:len(one)-1], append(slices.Clone(other), 0)} {
		kept := slices.Clone(b)
		_, _, _ = schema.Decode(b)
		_, _ = schema.Translate(b)
		if !slices.Equal(b, kept) {
			t.Errorf("%q became %q", kept, b)
		}
	}
}

func TestArgumentsAreNotRetained(t *testing.T) {
	s := rich()
	one, other := must[[]byte](t)(schema.Encode1(s)), must[[]byte](t)(schema.Encode2(s))
	spoil(s)
	if string(one) != first(rich()) || string(other) != second(rich()) {
		t.Errorf("the encodings became %q, %q", one, other)
	}
	for _, b := range [][]byte{one, other} {
		x, c := mustDecode(t, b), must[[]byte](t)(schema.Translate(b))
		kept := slices.Clone(c)
		clear(b)
		if !same(x, rich()) || !slices.Equal(c, kept) {
			t.Errorf("what was decoded became %+v; what was translated became %q", x, c)
		}
	}
}

func TestResultsAreInNewMemory(t *testing.T) {
	for _, code := range []string{first(rich()), second(rich())} {
		x, y := mustDecode(t, []byte(code)), mustDecode(t, []byte(code))
		spoil(x)
		if !same(y, rich()) || !same(mustDecode(t, []byte(code)), rich()) {
			t.Errorf("writing to one state made another one %+v", y)
		}
		b, c := must[[]byte](t)(schema.Translate([]byte(code))), must[[]byte](t)(schema.Translate([]byte(code)))
		kept := slices.Clone(c)
		clear(b)
		_ = append(b, 1)
		if !slices.Equal(c, kept) {
			t.Errorf("writing to one encoding made another one %q", c)
		}
	}
	one, other := must[[]byte](t)(schema.Encode1(rich())), must[[]byte](t)(schema.Encode1(rich()))
	clear(one)
	if string(other) != first(rich()) {
		t.Errorf("writing to one encoding made another one %q", other)
	}
	one, other = must[[]byte](t)(schema.Encode2(rich())), must[[]byte](t)(schema.Encode2(rich()))
	clear(one)
	if string(other) != second(rich()) {
		t.Errorf("writing to one encoding made another one %q", other)
	}
}

func TestPartsOfAStateShareNoMemory(t *testing.T) {
	for _, code := range []string{first(full()), second(full())} {
		s := mustDecode(t, []byte(code))
		var lists []*[]api.Label
		for i := range s.Machines {
			lists = append(lists, &s.Machines[i].Node.Labels)
		}
		for i := range s.Jobs {
			lists = append(lists, &s.Jobs[i].Task.Wants)
		}
		for i, l := range lists {
			// What is written to one list, or appended to it, is seen in no list before or after it.
			(*l)[0].Value = "w"
			*l = append(*l, api.Label{Key: "z", Value: "w"})
			for k, other := range lists {
				if written := (*other)[0].Value == "w"; written != (k <= i) || len(*other) != api.MaxLabels+min(1, max(0, i-k+1)) {
					t.Fatalf("writing to list %d made list %d %+v", i, k, *other)
				}
			}
		}
	}
}

func TestTheSameCallsReturnTheSame(t *testing.T) {
	roll := dice(214)
	for range 50 {
		s := someState(roll)
		one, other := must[[]byte](t)(schema.Encode1(s)), must[[]byte](t)(schema.Encode2(s))
		for range 3 {
			_, _, _ = schema.Decode([]byte(first(someState(roll))))
			if b := must[[]byte](t)(schema.Encode1(s)); !slices.Equal(b, one) {
				t.Fatalf("Encode1 = %q, and %q", one, b)
			}
			if b := must[[]byte](t)(schema.Encode2(s)); !slices.Equal(b, other) {
				t.Fatalf("Encode2 = %q, and %q", other, b)
			}
			if !reflect.DeepEqual(mustDecode(t, one), mustDecode(t, other)) {
				t.Fatalf("the schemas tell %+v and %+v", mustDecode(t, one), mustDecode(t, other))
			}
		}
	}
}

func TestMemoryBeyondTheLengthDoesNotMatter(t *testing.T) {
	s := rich()
	s.Machines = append(s.Machines, api.Machine{Until: -1})[:3]
	s.Queues = append(s.Queues, api.Queue{Quota: api.Res{-1, 0, 0}})[:3]
	s.Jobs = append(s.Jobs, api.Job{Seq: -1})[:6]
	s.Machines[2].Node.Labels = append(s.Machines[2].Node.Labels, a1)[:1]
	s.Jobs[1].Task.Wants = append(s.Jobs[1].Task.Wants, a1)[:1]
	mustEncode(t, s, first(rich()), second(rich()))
	if m, q, j := s.Machines[:4][3], s.Queues[:4][3], s.Jobs[:7][6]; m.Until != -1 || q.Quota[0] != -1 || j.Seq != -1 {
		t.Errorf("what is beyond the length became %+v, %+v, %+v", m, q, j)
	}
	if l, k := s.Machines[2].Node.Labels[:2][1], s.Jobs[1].Task.Wants[:2][1]; l != a1 || k != a1 {
		t.Errorf("what is beyond the length became %+v, %+v", l, k)
	}
	for _, code := range []string{first(rich()), second(rich())} {
		b := append([]byte(code), repeated(20)...)
		if x := mustDecode(t, b[:len(code)]); !same(x, rich()) {
			t.Errorf("Decode = %+v", x)
		}
		_ = must[[]byte](t)(schema.Translate(b[:len(code)]))
		if string(b) != code+repeated(20) {
			t.Errorf("the bytes became %q", b)
		}
		if x, kind, err := schema.Decode(b[: len(code)-1 : len(code)]); !isZero(x) || kind != 0 || err != api.ErrForm {
			t.Errorf("Decode without the last byte = %+v, %d, %d", x, kind, err)
		}
	}
}

func TestNilIsLikeEmpty(t *testing.T) {
	s := api.State{Next: 1, Machines: []api.Machine{}, Queues: []api.Queue{}, Jobs: []api.Job{}}
	mustEncode(t, s, first(blank()), second(blank()))
	x := rich()
	x.Machines[1].Node.Labels, x.Jobs[0].Task.Wants = []api.Label{}, []api.Label{}
	mustEncode(t, x, first(rich()), second(rich()))
	for _, b := range [][]byte{nil, {}} {
		if y, kind, err := schema.Decode(b); !isZero(y) || kind != 0 || err != api.ErrForm {
			t.Errorf("Decode(%v) = %+v, %d, %d", b, y, kind, err)
		}
		if c, err := schema.Translate(b); len(c) > 0 || err != api.ErrForm {
			t.Errorf("Translate(%v) = %q, %d", b, c, err)
		}
	}
}
