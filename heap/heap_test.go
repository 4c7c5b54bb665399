package heap_test

import (
	"math"
	"slices"
	"testing"

	"interregnum/heap"
)

// item is an element that is ordered by its key alone, and told apart by its name.
type item struct {
	key  int
	name int
}

func byKey(a, b item) bool {
	return a.key < b.key
}

func ascending(a, b int) bool {
	return a < b
}

func byLastDigit(a, b int) bool {
	return a%10 < b%10
}

// filled makes a heap with an order, and pushes elements.
func filled[T any](less func(a, b T) bool, elements ...T) *heap.Heap[T] {
	h := heap.New(less)
	for _, x := range elements {
		h.Push(x)
	}
	return h
}

// mustHold asks that a heap tells everywhere that it has these elements, in this order.
func mustHold[T comparable](t *testing.T, h *heap.Heap[T], want ...T) {
	t.Helper()
	if l := h.Sorted(); !slices.Equal(l, want) {
		t.Errorf("Sorted: %v, not %v", l, want)
	}
	if n := h.Len(); n != len(want) {
		t.Errorf("Len: %d, not %d", n, len(want))
	}
	var least T
	if len(want) > 0 {
		least = want[0]
	}
	if x, ok := h.Top(); x != least || ok != (len(want) > 0) {
		t.Errorf("Top: %v, %t, with %v to come", x, ok, want)
	}
}

// mustPop asks that a heap returns these elements, one by one, and has as many less then.
func mustPop[T comparable](t *testing.T, h *heap.Heap[T], want ...T) {
	t.Helper()
	for i, least := range want {
		count := h.Len()
		if x, ok := h.Pop(); x != least || !ok {
			t.Errorf("Pop %d: %v, %t, not %v", i, x, ok, least)
		}
		if n := h.Len(); n != count-1 {
			t.Errorf("Len after Pop %d: %d, and %d before", i, n, count)
		}
	}
}

// mustEmpty asks that a heap has these elements and no others, by taking them out.
func mustEmpty[T comparable](t *testing.T, h *heap.Heap[T], want ...T) {
	t.Helper()
	mustHold(t, h, want...)
	mustPop(t, h, want...)
	mustHold(t, h)
	var none T
	if x, ok := h.Pop(); x != none || ok {
		t.Errorf("Pop of an empty heap: %v, %t", x, ok)
	}
	mustHold(t, h)
}

func TestExamplesOfTheChapter(t *testing.T) {
	mustEmpty(t, filled(ascending, 3, 1, 2), 1, 2, 3)
	mustEmpty(t, filled(byLastDigit, 33, 11, 22, 13, 43, 1), 11, 1, 22, 33, 13, 43)
}

func TestANewHeapIsEmpty(t *testing.T) {
	mustEmpty(t, heap.New(ascending))
	mustEmpty(t, heap.New[int](nil))
	mustEmpty(t, new(heap.Heap[int]))
	mustEmpty(t, heap.New(func(a, b string) bool { return true }))
}

func TestAnEmptyHeapAsksNothing(t *testing.T) {
	h := heap.New(func(a, b int) bool {
		t.Error("less was called")
		return true
	})
	for range 2 {
		if n := h.Remove(func(int) bool {
			t.Error("where was called")
			return true
		}); n != 0 {
			t.Errorf("Remove: %d", n)
		}
		mustEmpty(t, h)
		// And once more after an element came and went.
		h.Push(7)
		mustPop(t, h, 7)
	}
}

func TestWithoutAnOrderTheEarliestIsOnTop(t *testing.T) {
	var zero heap.Heap[int]
	for _, h := range []*heap.Heap[int]{heap.New[int](nil), &zero, heap.New(func(a, b int) bool { return false })} {
		for _, x := range []int{5, 9, 1, 5, 3, 1, 8, 0, 5} {
			h.Push(x)
		}
		mustHold(t, h, 5, 9, 1, 5, 3, 1, 8, 0, 5)
		mustPop(t, h, 5, 9)
		h.Push(9)
		h.Push(-1)
		if n := h.Remove(func(x int) bool { return x == 1 }); n != 2 {
			t.Errorf("Remove: %d", n)
		}
		mustEmpty(t, h, 5, 3, 8, 0, 5, 9, -1)
	}
}

func TestANilHeap(t *testing.T) {
	var h *heap.Heap[int]
	for range 2 {
		h.Push(1)
		if x, ok := h.Pop(); x != 0 || ok {
			t.Errorf("Pop: %d, %t", x, ok)
		}
		if x, ok := h.Top(); x != 0 || ok {
			t.Errorf("Top: %d, %t", x, ok)
		}
		if n := h.Remove(func(int) bool { return true }); n != 0 {
			t.Errorf("Remove: %d", n)
		}
		if n := h.Remove(nil); n != 0 {
			t.Errorf("Remove(nil): %d", n)
		}
		if n := h.Len(); n != 0 {
			t.Errorf("Len: %d", n)
		}
		if l := h.Sorted(); len(l) != 0 {
			t.Errorf("Sorted: %v", l)
		}
	}
}

func TestTheLeastElementIsOnTop(t *testing.T) {
	h := heap.New(ascending)
	least := math.MaxInt
	for _, x := range []int{5, 7, 5, 3, 9, 3, 0, -1, 8, math.MaxInt, -1, math.MinInt, 2, math.MinInt} {
		h.Push(x)
		least = min(least, x)
		for range 2 {
			if top, ok := h.Top(); top != least || !ok {
				t.Errorf("Top: %d, %t, not %d", top, ok, least)
			}
		}
	}
	mustEmpty(t, h, math.MinInt, math.MinInt, -1, -1, 0, 2, 3, 3, 5, 5, 7, 8, 9, math.MaxInt)
}

func TestTheOrderIsThatOfTheFunction(t *testing.T) {
	descending := func(a, b int) bool { return a > b }
	mustEmpty(t, filled(descending, 3, 1, 2, 3, 5), 5, 3, 3, 2, 1)
	byLength := func(a, b string) bool { return len(a) < len(b) }
	mustEmpty(t, filled(byLength, "ccc", "b", "", "aa", "a", "bbb", "aaa", ""), "", "", "b", "a", "aa", "ccc", "bbb", "aaa")
}

func TestAnElementIsThereAsOftenAsItWasInserted(t *testing.T) {
	mustEmpty(t, filled(ascending, 2, 1, 2, 1, 2, 2, 1), 1, 1, 1, 2, 2, 2, 2)
	same := make([]int, 100)
	mustEmpty(t, filled(ascending, same...), same...)
	h := filled(ascending, 4, 4)
	mustPop(t, h, 4)
	h.Push(4)
	mustEmpty(t, h, 4, 4)
}

func TestOfEqualElementsTheEarliestIsFirst(t *testing.T) {
	var pushed []item
	for name := range 100 {
		pushed = append(pushed, item{7, name})
	}
	mustEmpty(t, filled(byKey, pushed...), pushed...)
	h := heap.New(byKey)
	for _, x := range []item{{2, 1}, {1, 2}, {2, 3}, {1, 4}, {0, 5}, {2, 6}, {0, 7}, {1, 8}} {
		h.Push(x)
	}
	mustHold(t, h, item{0, 5}, item{0, 7}, item{1, 2}, item{1, 4}, item{1, 8}, item{2, 1}, item{2, 3}, item{2, 6})
	// What comes in later stays later, whatever went out in between.
	mustPop(t, h, item{0, 5}, item{0, 7}, item{1, 2})
	h.Push(item{1, 9})
	h.Push(item{0, 10})
	h.Push(item{2, 0})
	mustPop(t, h, item{0, 10}, item{1, 4})
	h.Push(item{1, 2})
	mustEmpty(t, h, item{1, 8}, item{1, 9}, item{1, 2}, item{2, 1}, item{2, 3}, item{2, 6}, item{2, 0})
}

func TestAnElementThatComesBackIsALaterOne(t *testing.T) {
	h := filled(byKey, item{1, 1}, item{1, 2}, item{1, 3})
	for range 50 {
		first, _ := h.Pop()
		h.Push(first)
	}
	// After 50 times, which is 16 rounds and 2 more.
	mustEmpty(t, h, item{1, 3}, item{1, 1}, item{1, 2})
}

func TestAllShortSequences(t *testing.T) {
	const keys = 3
	for length := range 8 {
		count := 1
		for range length {
			count *= keys
		}
		for number := range count {
			var pushed []item
			for name := range length {
				pushed = append(pushed, item{number % keys, name})
				number /= keys
			}
			var want []item
			for key := range keys {
				for _, x := range pushed {
					if x.key == key {
						want = append(want, x)
					}
				}
			}
			mustEmpty(t, filled(byKey, pushed...), want...)
		}
	}
}

func TestRemove(t *testing.T) {
	odd := func(x item) bool { return x.key%2 != 0 }
	pushed := []item{{4, 1}, {3, 2}, {1, 3}, {2, 4}, {4, 5}, {1, 6}, {5, 7}, {2, 8}, {0, 9}, {3, 10}, {4, 11}}
	h := filled(byKey, pushed...)
	if n := h.Remove(odd); n != 5 {
		t.Errorf("Remove: %d", n)
	}
	mustHold(t, h, item{0, 9}, item{2, 4}, item{2, 8}, item{4, 1}, item{4, 5}, item{4, 11})
	if n := h.Remove(odd); n != 0 {
		t.Errorf("Remove again: %d", n)
	}
	h.Push(item{2, 12})
	h.Push(item{3, 13})
	mustEmpty(t, h, item{0, 9}, item{2, 4}, item{2, 8}, item{2, 12}, item{3, 13}, item{4, 1}, item{4, 5}, item{4, 11})
}

func TestRemoveOfNothingAndOfAll(t *testing.T) {
	none := func(item) bool { return false }
	all := func(item) bool { return true }
	h := filled(byKey, item{2, 1}, item{1, 2}, item{2, 3})
	for _, where := range []func(item) bool{none, nil} {
		if n := h.Remove(where); n != 0 {
			t.Errorf("Remove of nothing: %d", n)
		}
		mustHold(t, h, item{1, 2}, item{2, 1}, item{2, 3})
	}
	if n := h.Remove(all); n != 3 {
		t.Errorf("Remove of all: %d", n)
	}
	mustHold(t, h)
	h.Push(item{2, 5})
	h.Push(item{2, 4})
	mustEmpty(t, h, item{2, 5}, item{2, 4})
}

func TestRemoveOfOneAtAnyPlace(t *testing.T) {
	for count := 1; count <= 12; count++ {
		for gone := range count {
			h := heap.New(byKey)
			var want []item
			for name := range count {
				x := item{name * 5 % 12, name}
				h.Push(x)
				if name != gone {
					want = append(want, x)
				}
			}
			slices.SortFunc(want, func(a, b item) int { return a.key - b.key })
			if n := h.Remove(func(x item) bool { return x.name == gone }); n != 1 {
				t.Errorf("Remove of %d of %d: %d", gone, count, n)
			}
			mustEmpty(t, h, want...)
		}
	}
}

func TestRemoveTellsEqualElementsApart(t *testing.T) {
	h := filled(byKey, item{1, 1}, item{1, 2}, item{1, 3}, item{1, 4}, item{1, 5})
	if n := h.Remove(func(x item) bool { return x.name%2 == 0 }); n != 2 {
		t.Errorf("Remove: %d", n)
	}
	mustHold(t, h, item{1, 1}, item{1, 3}, item{1, 5})
	// The same element several times: all of them go, or none.
	h = filled(byKey, item{1, 1}, item{1, 2}, item{1, 1}, item{0, 1}, item{1, 1})
	if n := h.Remove(func(x item) bool { return x == item{1, 1} }); n != 3 {
		t.Errorf("Remove of one that is there three times: %d", n)
	}
	mustEmpty(t, h, item{0, 1}, item{1, 2})
}

func TestRemoveAsksForEachElementOnce(t *testing.T) {
	for _, answer := range []bool{false, true} {
		h := filled(ascending, 5, 3, 3, 9, 1, 5, 5)
		var asked []int
		h.Remove(func(x int) bool {
			asked = append(asked, x)
			return answer
		})
		slices.Sort(asked)
		if !slices.Equal(asked, []int{1, 3, 3, 5, 5, 5, 9}) {
			t.Errorf("asked for %v", asked)
		}
	}
}

func TestSortedRemovesNothing(t *testing.T) {
	h := filled(byKey, item{2, 1}, item{1, 2}, item{2, 3}, item{1, 4}, item{0, 5})
	for range 3 {
		mustHold(t, h, item{0, 5}, item{1, 2}, item{1, 4}, item{2, 1}, item{2, 3})
	}
	mustPop(t, h, item{0, 5}, item{1, 2})
	mustEmpty(t, h, item{1, 4}, item{2, 1}, item{2, 3})
}
