package heap_test

import (
	"slices"
	"testing"

	"interregnum/heap"
)

// some are elements of which several are equal.
func some() []int {
	return []int{4, 8, 1, 9, 4, 0, 7, 3, 3, 8, 5, 2, 4, 6, 1, 9, 0}
}

// mustNotLose asks that a heap with any function as its order returns what was pushed, if each time another part of it is taken out by another call.
func mustNotLose(t *testing.T, less func(a, b int) bool) {
	t.Helper()
	h := filled(less, some()...)
	if sorted := h.Sorted(); !slices.Equal(slices.Sorted(slices.Values(sorted)), slices.Sorted(slices.Values(some()))) {
		t.Errorf("Sorted: %v", sorted)
	}
	var out []int
	for range 5 {
		if x, ok := h.Pop(); ok {
			out = append(out, x)
		}
	}
	n := h.Remove(func(x int) bool {
		if x%3 == 0 {
			out = append(out, x)
		}
		return x%3 == 0
	})
	if n+5 != len(out) || h.Len()+len(out) != len(some()) {
		t.Errorf("%d removed, %d left, and %v out", n, h.Len(), out)
	}
	for x, ok := h.Pop(); ok; x, ok = h.Pop() {
		out = append(out, x)
	}
	slices.Sort(out)
	if !slices.Equal(out, slices.Sorted(slices.Values(some()))) {
		t.Errorf("what came out: %v", out)
	}
}

func TestFunctionsThatAreNoOrderLoseNothing(t *testing.T) {
	mustNotLose(t, func(a, b int) bool { return true })
	mustNotLose(t, func(a, b int) bool { return a <= b })
	mustNotLose(t, func(a, b int) bool { return a != b })
	// Each of three is less than the next one, in a circle.
	mustNotLose(t, func(a, b int) bool { return (a+1)%3 == b%3 })
	// What is not less than each other does not go on from one to the next.
	mustNotLose(t, func(a, b int) bool { return a+3 < b })
}

func TestFunctionsThatChangeTheirMindLoseNothing(t *testing.T) {
	calls := 0
	mustNotLose(t, func(a, b int) bool {
		calls++
		return calls%2 == 0
	})
	roll := dice(161)
	for range 2000 {
		mustNotLose(t, func(a, b int) bool { return roll(2) == 0 })
	}
	mustNotLose(t, func(a, b int) bool { return (a < b) == (roll(9) > 0) })
}

func TestAnOrderThatPanics(t *testing.T) {
	mustNotLose(t, func(a, b int) bool { panic("no order") })
	mustNotLose(t, func(a, b int) bool { return some()[a+b] > 3 })
	mustNotLose(t, func(a, b int) bool {
		if a == 4 {
			panic(nil)
		}
		return a < b
	})
	// Where it panics, neither element is less.
	mustEmpty(t, filled(func(a, b int) bool { panic(a) }, 3, 1, 2, 0), 3, 1, 2, 0)
	byValue := func(a, b *int) bool { return *a < *b }
	one, two, three := 1, 2, 3
	mustEmpty(t, filled(byValue, &three, &one, &two), &one, &two, &three)
	mustEmpty(t, filled(byValue, nil, &one), nil, &one)
	mustEmpty(t, filled(byValue, &one, nil), &one, nil)
	mustEmpty(t, filled(byValue, nil, nil), nil, nil)
}

func TestAWhereThatPanics(t *testing.T) {
	h := filled(ascending, some()...)
	if n := h.Remove(func(x int) bool { panic(x) }); n != 0 {
		t.Errorf("Remove: %d", n)
	}
	if n := h.Remove(func(x int) bool { return 10/x > 4 }); n != 3 {
		t.Errorf("Remove where 0 cannot be told: %d", n)
	}
	mustEmpty(t, h, 0, 0, 3, 3, 4, 4, 4, 5, 6, 7, 8, 8, 9, 9)
}

func TestAnOrderThatLooksAtTheHeap(t *testing.T) {
	var h *heap.Heap[int]
	h = heap.New(func(a, b int) bool {
		h.Top()
		return h.Len() > 0 && a < b
	})
	for _, x := range some() {
		h.Push(x)
	}
	mustEmpty(t, h, slices.Sorted(slices.Values(some()))...)
}

func TestAnOrderThatUsesTheHeapLosesNothing(t *testing.T) {
	for at := range 60 {
		calls, depth := 0, 0
		var in, out []int
		var h *heap.Heap[int]
		h = heap.New(func(a, b int) bool {
			calls++
			// Only one at a time, and not for ever: else it is the function that does not end.
			if depth > 0 || calls < at || calls > at+20 {
				return a < b
			}
			depth++
			switch calls % 4 {
			case 0:
				x := calls
				h.Push(x)
				in = append(in, x)
			case 1:
				for range 3 {
					if x, ok := h.Pop(); ok {
						out = append(out, x)
					}
				}
			case 2:
				h.Remove(func(x int) bool {
					if x%4 == 1 {
						out = append(out, x)
					}
					return x%4 == 1
				})
			default:
				h.Sorted()
			}
			depth--
			return a < b
		})
		for _, x := range some() {
			h.Push(x)
			in = append(in, x)
		}
		h.Remove(func(x int) bool {
			if x == 8 {
				out = append(out, x)
			}
			return x == 8
		})
		for x, ok := h.Pop(); ok; x, ok = h.Pop() {
			out = append(out, x)
		}
		slices.Sort(in)
		slices.Sort(out)
		if !slices.Equal(in, out) {
			t.Errorf("from call %d on: %v came out of %v", at, out, in)
		}
	}
}

func TestAWhereThatLooksAtTheHeap(t *testing.T) {
	h := filled(ascending, some()...)
	want := slices.Sorted(slices.Values(some()))
	n := h.Remove(func(x int) bool {
		mustHold(t, h, want...)
		return x > 2
	})
	if n != 12 {
		t.Errorf("Remove: %d", n)
	}
	mustEmpty(t, h, 0, 0, 1, 1, 2)
}

func TestAWhereThatUsesTheHeap(t *testing.T) {
	h := filled(ascending, 5, 1, 4, 2, 3)
	// What comes in meanwhile is not asked for.
	n := h.Remove(func(x int) bool {
		h.Push(x * 10)
		return x%2 == 0 || x >= 10
	})
	if n != 2 {
		t.Errorf("Remove with Push: %d", n)
	}
	mustHold(t, h, 1, 3, 5, 10, 20, 30, 40, 50)
	// What went out meanwhile is not removed once more.
	var asked, out []int
	n = h.Remove(func(x int) bool {
		asked = append(asked, x)
		if y, ok := h.Pop(); ok {
			out = append(out, y)
		}
		return true
	})
	slices.Sort(asked)
	if n != 0 || !slices.Equal(asked, []int{1, 3, 5, 10, 20, 30, 40, 50}) || !slices.Equal(out, asked) {
		t.Errorf("Remove with Pop: %d, asked for %v, and %v out", n, asked, out)
	}
	mustHold(t, h)
	h = filled(ascending, 5, 1, 4, 2, 3)
	inner := 0
	n = h.Remove(func(x int) bool {
		inner += h.Remove(func(y int) bool { return y > 3 })
		return x != 2
	})
	if n != 2 || inner != 2 {
		t.Errorf("Remove with Remove: %d, and %d", n, inner)
	}
	mustEmpty(t, h, 2)
}
