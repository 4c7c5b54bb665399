package heap_test

import (
	"math"
	"slices"
	"testing"

	"interregnum/heap"
)

// dice returns a function whose numbers, from 0 to below n, have no pattern, but are the same ones for the same seed.
func dice(seed uint32) func(n int) int {
	return func(n int) int {
		seed = seed*1664525 + 1013904223
		return int(seed>>8) % n
	}
}

// line is what a heap is by the words of the chapter: its elements as they were inserted, of which the first one goes than which none is less.
type line []item

func (l line) least() int {
	at := 0
	for i, x := range l {
		if x.key < l[at].key {
			at = i
		}
	}
	return at
}

func (l line) sorted() []item {
	rest := slices.Clone(l)
	var sorted []item
	for len(rest) > 0 {
		at := rest.least()
		sorted = append(sorted, rest[at])
		rest = slices.Delete(rest, at, at+1)
	}
	return sorted
}

func TestManyCallsBesideALine(t *testing.T) {
	roll := dice(162)
	popped, removed := 0, 0
	for range 400 {
		h, l := heap.New(byKey), line{}
		keys := 1 + roll(12)
		for name := range roll(120) {
			switch roll(8) {
			case 0, 1:
				x, ok := h.Pop()
				if ok != (len(l) > 0) {
					t.Fatalf("Pop: %v, %t, with %v", x, ok, l)
				}
				if ok {
					at := l.least()
					if x != l[at] {
						t.Fatalf("Pop: %v, with %v", x, l)
					}
					l = slices.Delete(l, at, at+1)
					popped++
				}
			case 2:
				divisor, remainder := 2+roll(4), roll(4)
				where := func(x item) bool { return (x.key+x.name)%divisor == remainder }
				before := len(l)
				l = slices.DeleteFunc(l, where)
				if n := h.Remove(where); n != before-len(l) {
					t.Fatalf("Remove: %d, not %d", n, before-len(l))
				}
				removed += before - len(l)
			default:
				x := item{roll(keys), name}
				h.Push(x)
				l = append(l, x)
			}
			mustHold(t, h, l.sorted()...)
			if t.Failed() {
				t.FailNow()
			}
		}
		mustEmpty(t, h, l.sorted()...)
	}
	if popped < 1000 || removed < 1000 {
		t.Errorf("only %d elements popped, and %d removed", popped, removed)
	}
}

func TestManyElements(t *testing.T) {
	const count = 200000
	roll := dice(163)
	h := heap.New(byKey)
	pushed := make([]item, count)
	for name := range pushed {
		pushed[name] = item{roll(1000), name}
		h.Push(pushed[name])
	}
	slices.SortStableFunc(pushed, func(a, b item) int { return a.key - b.key })
	if !slices.Equal(h.Sorted(), pushed) {
		t.Fatal("Sorted is not in order")
	}
	even := func(x item) bool { return x.name%2 == 0 }
	if n := h.Remove(even); n != count/2 {
		t.Errorf("Remove: %d", n)
	}
	mustPop(t, h, slices.DeleteFunc(pushed, even)...)
	mustHold(t, h)
}

func TestElementsOfAnyType(t *testing.T) {
	// None of these can be compared with themselves, or be equal to themselves.
	functions := heap.New[func() int](nil)
	for i := range 5 {
		functions.Push(func() int { return i })
	}
	functions.Push(nil)
	if n := functions.Remove(func(f func() int) bool { return f != nil && f() == 2 }); n != 1 {
		t.Errorf("Remove of a function: %d", n)
	}
	for _, want := range []int{0, 1, 3, 4} {
		if f, ok := functions.Pop(); !ok || f() != want {
			t.Errorf("Pop is not the function that returns %d", want)
		}
	}
	if f, ok := functions.Pop(); f != nil || !ok {
		t.Errorf("Pop of the nil function: %t", ok)
	}
	numbers := filled(func(a, b float64) bool { return a < b }, math.NaN(), math.NaN())
	numbers.Remove(func(x float64) bool { return x == x })
	if l := numbers.Sorted(); len(l) != 2 || !math.IsNaN(l[0]) || !math.IsNaN(l[1]) {
		t.Errorf("Sorted: %v", l)
	}
	anything := filled[any](nil, []int{1}, map[int]int{}, nil, "a", 1, nil)
	if n := anything.Remove(func(x any) bool { return x == nil }); n != 2 || anything.Len() != 4 {
		t.Errorf("Remove: %d", n)
	}
	mustEmpty(t, filled[struct{}](nil, struct{}{}, struct{}{}, struct{}{}), struct{}{}, struct{}{}, struct{}{})
	mustEmpty(t, filled(func(a, b [2]string) bool { return a[1] < b[1] }, [2]string{"a", "z"}, [2]string{"b", "y"}), [2]string{"b", "y"}, [2]string{"a", "z"})
}

func TestElementsAreStoredAsTheyAre(t *testing.T) {
	first, second := &item{2, 1}, &item{1, 2}
	h := filled(func(a, b *item) bool { return a.key < b.key }, first, second)
	mustEmpty(t, h, second, first)
	list := []int{1, 2}
	lists := filled[[]int](nil, list)
	list[0] = 9
	if l, _ := lists.Top(); &l[0] != &list[0] {
		t.Error("Top is a copy of the list")
	}
	if l := lists.Sorted(); &l[0][0] != &list[0] {
		t.Error("Sorted has a copy of the list")
	}
	if l, _ := lists.Pop(); &l[0] != &list[0] {
		t.Error("Pop is a copy of the list")
	}
}

func TestSortedIsInNewMemory(t *testing.T) {
	h := filled(ascending, 3, 1, 2, 5, 4)
	one, other := h.Sorted(), h.Sorted()
	for i := range one {
		one[i] = -1
	}
	_ = append(one, -1, -1, -1)
	if !slices.Equal(other, []int{1, 2, 3, 4, 5}) {
		t.Errorf("writing to one result changed another one: %v", other)
	}
	mustHold(t, h, 1, 2, 3, 4, 5)
	h.Push(0)
	mustPop(t, h, 0, 1, 2)
	if !slices.Equal(other, []int{1, 2, 3, 4, 5}) {
		t.Errorf("a call changed an earlier result: %v", other)
	}
}

func TestHeapsDoNotDependOnEachOther(t *testing.T) {
	one, other, third := heap.New(ascending), heap.New(byLastDigit), heap.New(ascending)
	for i, x := range []int{25, 31, 13, 42, 50, 6} {
		one.Push(x)
		other.Push(x)
		if i%2 == 0 {
			third.Push(x)
			one.Sorted()
		}
	}
	other.Remove(func(x int) bool { return x == 13 })
	mustPop(t, one, 6, 13, 25)
	mustEmpty(t, other, 50, 31, 42, 25, 6)
	mustEmpty(t, one, 31, 42, 50)
	mustEmpty(t, third, 13, 25, 50)
}

func TestTheSameCallsReturnTheSame(t *testing.T) {
	run := func() []item {
		roll := dice(164)
		h := heap.New(func(a, b item) bool { return a.key/2 < b.key/2 || a.key == 5 })
		var out []item
		for name := range 300 {
			h.Push(item{roll(9), name})
			if roll(3) == 0 {
				x, _ := h.Pop()
				out = append(out, x)
			}
			if roll(20) == 0 {
				h.Remove(func(x item) bool {
					out = append(out, x)
					return x.key == 3
				})
			}
		}
		return append(out, h.Sorted()...)
	}
	want := run()
	for range 5 {
		if !slices.Equal(run(), want) {
			t.Fatal("the same calls returned something else")
		}
	}
}
