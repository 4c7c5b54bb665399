package heap

import "testing"

// mustForget asks that the memory behind the elements of a heap holds nothing of what went out.
func mustForget(t *testing.T, h *Heap[*int]) {
	t.Helper()
	for _, e := range h.entries[len(h.entries):cap(h.entries)] {
		if e.element != nil {
			t.Errorf("with %d elements left, one that went out is still kept", len(h.entries))
		}
	}
}

func TestWhatWentOutIsNotKept(t *testing.T) {
	h := New(func(a, b *int) bool { return *a < *b })
	for i := range 100 {
		h.Push(&i)
	}
	if n := h.Remove(func(x *int) bool { return *x%3 == 0 }); n != 34 {
		t.Errorf("Remove: %d", n)
	}
	mustForget(t, h)
	for h.Len() > 0 {
		h.Pop()
		mustForget(t, h)
	}
}
