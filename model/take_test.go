package model_test

import (
	"math"
	"slices"
	"strings"
	"testing"

	"interregnum/api"
	"interregnum/model"
)

func mustTakeWhatWasPut[T any](t *testing.T, k kind[T]) {
	for _, v := range k.samples {
		for _, before := range surroundings() {
			for _, after := range surroundings() {
				b := k.put([]byte(before), v)
				w, next, err := k.take(slices.Concat(b, []byte(after)), len(before))
				if !k.same(w, v) || next != len(b) || err != api.OK {
					t.Errorf("%+v after %q, before %q: %+v, %d, %d", v, before, after, w, next, err)
				}
			}
		}
	}
}

func TestWhatWasPutIsTakenAsItWas(t *testing.T) {
	mustTakeWhatWasPut(t, nodes())
	mustTakeWhatWasPut(t, queues())
	mustTakeWhatWasPut(t, tasks())
}

func TestSequencesAreTakenAsTheyWere(t *testing.T) {
	var b []byte
	for i := range 4 {
		b = model.PutNode(b, nodes().samples[i])
		b = model.PutTask(b, tasks().samples[i])
		b = model.PutQueue(b, queues().samples[i])
	}
	at := 0
	for i := range 4 {
		n, afterNode, err := model.TakeNode(b, at)
		if !nodes().same(n, nodes().samples[i]) || err != api.OK {
			t.Fatalf("node %d: %+v, %d", i, n, err)
		}
		k, afterTask, err := model.TakeTask(b, afterNode)
		if !tasks().same(k, tasks().samples[i]) || err != api.OK {
			t.Fatalf("task %d: %+v, %d", i, k, err)
		}
		q, afterQueue, err := model.TakeQueue(b, afterTask)
		if q != queues().samples[i] || err != api.OK {
			t.Fatalf("queue %d: %+v, %d", i, q, err)
		}
		at = afterQueue
	}
	if at != len(b) {
		t.Errorf("%d of %d bytes are read", at, len(b))
	}
}

func mustBeShort[T any](t *testing.T, k kind[T]) {
	for _, v := range k.samples {
		whole := k.put(nil, v)
		for size := range whole {
			mustFail(t, k, whole[:size], 0, api.ErrShort)
		}
	}
}

func TestWhatIsCutOffIsShort(t *testing.T) {
	mustBeShort(t, nodes())
	mustBeShort(t, queues())
	mustBeShort(t, tasks())
}

func mustRefuseOffsets[T any](t *testing.T, k kind[T]) {
	for _, v := range k.samples {
		b := k.put(nil, v)
		for _, at := range []int{math.MinInt, -2, -1, len(b) + 1, len(b) + 2, math.MaxInt} {
			mustFail(t, k, b, at, api.ErrArg)
		}
		mustFail(t, k, b, len(b), api.ErrShort)
	}
}

func TestOffsetsOutsideAreRefused(t *testing.T) {
	mustRefuseOffsets(t, nodes())
	mustRefuseOffsets(t, queues())
	mustRefuseOffsets(t, tasks())
}

// seventeen is one byte too long for a name.
const seventeen = "0123456789abcdefg"

func TestErrorsOfNodes(t *testing.T) {
	five := []any{5, "a", "1", "b", "1", "c", "1", "d", "1", "e", "1"}
	for _, c := range []struct {
		b    string
		want api.Errno
	}{
		{code("n", 0, 0, 0, 0), api.OK},
		{code("n", most, most, most, 4, "a", "1", "b", "1", "c", "1", "d", "1"), api.OK},
		{"\x09", api.ErrForm},
		{"\x01\x00", api.ErrForm},
		{"\x02\x00\x01n" + code(0, 0, 0, 0), api.ErrForm},
		{code(seventeen, 0, 0, 0, 0), api.ErrLong},
		{code(seventeen)[:3], api.ErrLong},
		{code(most + 1), api.ErrLong},
		{code("n", most+1, 0, 0, 0), api.ErrForm},
		{code("n", 0, most+1, 0, 0), api.ErrForm},
		{code("n", 0, 0, most+1, 0), api.ErrForm},
		{code("n", math.MaxInt, 0, 0, 0), api.ErrForm},
		{code("n") + strings.Repeat("\xff", 9), api.ErrForm},
		{code("n") + "\x08" + strings.Repeat("\xff", 8), api.ErrForm},
		{code("n", 0, 0, 0) + "\x08" + strings.Repeat("\xff", 8), api.ErrLong},
		{code("n", 0, 0, 0) + "\x09", api.ErrForm},
		{code("n", 0, 0, 0) + "\x01\x00", api.ErrForm},
		{code("n", 0, 0, 0) + code(five...), api.ErrLong},
		{code("n", 0, 0, 0, 5), api.ErrLong},
		{code("n", 0, 0, 0, most), api.ErrLong},
		{code("n", 0, 0, 0, most+1), api.ErrLong},
		{code("n", 0, 0, 0, math.MaxInt), api.ErrLong},
		{code("n", 0, 0, 0, 1, seventeen, "1"), api.ErrLong},
		{code("n", 0, 0, 0, 1, "a", seventeen), api.ErrLong},
		{code("n", 0, 0, 0, 2, "a", "1"), api.ErrShort},
		{code("n", 0, 0, 0, 1, "a"), api.ErrShort},
		{code("n", 0, 0, 0, 1, "a") + "\x0a", api.ErrForm},
		// What is read without an error is not valid.
		{code("", 0, 0, 0, 0), api.ErrForm},
		{code("N", 0, 0, 0, 0), api.ErrForm},
		{code("-n", 0, 0, 0, 0), api.ErrForm},
		{code("n", 0, 0, 0, 2, "b", "1", "a", "1"), api.ErrForm},
		{code("n", 0, 0, 0, 2, "a", "1", "a", "2"), api.ErrForm},
		{code("n", 0, 0, 0, 1, "", "1"), api.ErrForm},
		{code("n", 0, 0, 0, 1, "a", ""), api.ErrForm},
		// The first error is the one that is met first.
		{code("N", 0, 0), api.ErrShort},
		{code("N", 0, 0, 0, 5), api.ErrLong},
		{code("", 0, 0, 0, 1, "a", seventeen), api.ErrLong},
		{code("n", most+1), api.ErrForm},
		{code("n", most+1, 0, 0, 5), api.ErrForm},
		{code("n", most+1, 0, 0, 1, seventeen), api.ErrForm},
		{code(seventeen, most+1), api.ErrLong},
		{code("n", 0, 0, 0, 1, seventeen) + "\x09", api.ErrLong},
		{code("n", 0, 0, 0, 1, "A") + "\x09", api.ErrForm},
		{code("n", 0, 0, 0, 2, "b", "1", "a"), api.ErrShort},
		{code("n", 0, 0, 0, 2, "b", "1", "a", seventeen), api.ErrLong},
	} {
		mustHaveError(t, nodes(), c.b, c.want)
	}
}

func TestErrorsOfQueues(t *testing.T) {
	for _, c := range []struct {
		b    string
		want api.Errno
	}{
		{code("q", 0, 0, 0), api.OK},
		{code("q", most, most, most), api.OK},
		{code("q", most+1, 0, 0), api.ErrForm},
		{code("q", 0, most+1, 0), api.ErrForm},
		{code("q", 0, 0, most+1), api.ErrForm},
		{code("q", 0, 0, math.MaxInt), api.ErrForm},
		{code(seventeen, 0, 0, 0), api.ErrLong},
		{code("Q", 0, 0, 0), api.ErrForm},
		{code("", 0, 0, 0), api.ErrForm},
		{code("Q", 0, 0), api.ErrShort},
		{code("q", most+1), api.ErrForm},
		{code("q", 0) + "\x02\x00", api.ErrShort},
		{code("q", 0) + "\x02\x00\x01", api.ErrForm},
		{code(seventeen, most+1), api.ErrLong},
	} {
		mustHaveError(t, queues(), c.b, c.want)
	}
}

func TestErrorsOfTasks(t *testing.T) {
	for _, c := range []struct {
		b    string
		want api.Errno
	}{
		{code("t", "q", 0, 0, 0, 0, 0, "", "", 0), api.OK},
		{code("t", "q", 9, most, most, most, 4, "a", "1", "b", "1", "c", "1", "d", "1", "x", "g", 4), api.OK},
		{code(seventeen, "q", 0, 0, 0, 0, 0, "", "", 0), api.ErrLong},
		{code("t", seventeen, 0, 0, 0, 0, 0, "", "", 0), api.ErrLong},
		{code("t", "q", 0, 0, 0, 0, 5, "", "", 0), api.ErrLong},
		{code("t", "q", 0, 0, 0, 0, most+1, "", "", 0), api.ErrLong},
		{code("t", "q", 0, 0, 0, 0, 0, seventeen, "", 0), api.ErrLong},
		{code("t", "q", 0, 0, 0, 0, 0, "", seventeen, 0), api.ErrLong},
		{code("t", "q", most+1, 0, 0, 0, 0, "", "", 0), api.ErrForm},
		{code("t", "q", 0, most+1, 0, 0, 0, "", "", 0), api.ErrForm},
		{code("t", "q", 0, 0, 0, most+1, 0, "", "", 0), api.ErrForm},
		{code("t", "q", 0, 0, 0, 0, 0, "", "", most+1), api.ErrForm},
		{code("t", "q", 0, 0, 0, 0, 0, "", "", math.MaxInt), api.ErrForm},
		{code("t", "q", 0, 0, 0, 0, 0, "", "g") + "\x08" + strings.Repeat("\xff", 8), api.ErrForm},
		// What is read without an error is not valid.
		{code("", "q", 0, 0, 0, 0, 0, "", "", 0), api.ErrForm},
		{code("t", "", 0, 0, 0, 0, 0, "", "", 0), api.ErrForm},
		{code("t", "q", 10, 0, 0, 0, 0, "", "", 0), api.ErrForm},
		{code("t", "q", most, 0, 0, 0, 0, "", "", 0), api.ErrForm},
		{code("t", "q", 0, 0, 0, 0, 1, "k", "", "", "", 0), api.ErrForm},
		{code("t", "q", 0, 0, 0, 0, 0, "X", "", 0), api.ErrForm},
		{code("t", "q", 0, 0, 0, 0, 0, "", "G", 2), api.ErrForm},
		{code("t", "q", 0, 0, 0, 0, 0, "", "g", 0), api.ErrForm},
		{code("t", "q", 0, 0, 0, 0, 0, "", "g", 1), api.ErrForm},
		{code("t", "q", 0, 0, 0, 0, 0, "", "g", 5), api.ErrForm},
		{code("t", "q", 0, 0, 0, 0, 0, "", "", 2), api.ErrForm},
		// The first error is the one that is met first.
		{code("T", "Q", 10, 0, 0, 0, 0, "X", "G"), api.ErrShort},
		{code("T", "Q", 10, 0, 0, 0, 0, "X", seventeen), api.ErrLong},
		{code("t", "q", most+1), api.ErrForm},
		{code("t", "q", most+1, 0, 0, 0, 5), api.ErrForm},
		{code("t", "q", 0, 0, 0, 0, 5, "X", "G", most+1), api.ErrLong},
		{code("t", "q", 0, 0, 0, 0, 0, seventeen, "G", most+1), api.ErrLong},
		{code("t", "q", 0, 0, 0, 0, 0, "X", "G") + "\x09", api.ErrForm},
		{code("t", "q", 0, 0, 0, 0, 1, "K", "v"), api.ErrShort},
	} {
		mustHaveError(t, tasks(), c.b, c.want)
	}
}

// mustHaveError takes from b, whatever stands around it.
func mustHaveError[T any](t *testing.T, k kind[T], b string, want api.Errno) {
	t.Helper()
	for _, before := range surroundings() {
		whole := []byte(before + b)
		mustTake(t, k, whole, len(before))
		_, next, err := k.take(whole, len(before))
		if want == api.OK && next != len(whole) || err != want {
			t.Errorf("taken from %q at %d: %d, error %d, not %d", whole, len(before), next, err, want)
		}
	}
}

// mustTakeNothingElse takes from bytes that differ from encodings in a byte: changed, left out, or put in.
func mustTakeNothingElse[T any](t *testing.T, k kind[T]) {
	for _, v := range k.samples {
		whole := k.put(nil, v)
		for at := range whole {
			mustTake(t, k, slices.Delete(slices.Clone(whole), at, at+1), 0)
			mustTake(t, k, whole, at)
			for x := range 256 {
				changed := slices.Clone(whole)
				changed[at] = byte(x)
				mustTake(t, k, changed, 0)
				mustTake(t, k, slices.Insert(slices.Clone(whole), at, byte(x)), 0)
			}
		}
	}
}

func TestNothingElseIsTaken(t *testing.T) {
	mustTakeNothingElse(t, nodes())
	mustTakeNothingElse(t, queues())
	mustTakeNothingElse(t, tasks())
}

// dice throws numbers without a pattern, the same ones from the same start.
type dice uint32

func (d *dice) below(n int) int {
	*d = *d*1664525 + 1013904223
	return int(*d>>16) % n
}

// mixed returns the encodings of pieces as the layout asks for them, of which some are not valid.
func (d *dice) mixed(layout string) []byte {
	texts := []string{"", "a", "b", "c-1", "0123456789abcdef", "d", "A", seventeen}
	numbers := []int{0, 0, 0, 1, 2, 3, 4, 5, 9, 10, most, most + 1}
	var b string
	for _, piece := range layout {
		switch piece {
		case 's':
			b += code(texts[d.below(len(texts))])
		case 'n':
			b += code(numbers[d.below(len(numbers))])
		case 'l':
			b += d.mixedLabels()
		}
	}
	return []byte(b)
}

// mixedLabels returns the encodings of up to five labels, of which most are in order.
func (d *dice) mixedLabels() string {
	keys := []string{"a", "b", "c", "d", "e"}
	count := d.below(6)
	b := code(count)
	for _, key := range keys[:count] {
		if d.below(8) == 0 {
			key = keys[d.below(5)]
		}
		b += code(key, "v")
	}
	return b
}

func mustTakeValidOnes[T any](t *testing.T, k kind[T]) {
	taken, refused := 0, 0
	d := dice(1)
	for range 20000 {
		b := d.mixed(k.layout)
		mustTake(t, k, b, 0)
		v, next, err := k.take(b, 0)
		if err != api.OK {
			refused++
			continue
		}
		taken++
		if !k.valid(v) || !slices.Equal(k.put(nil, v), b[:next]) {
			t.Fatalf("%q is taken as %+v", b[:next], v)
		}
	}
	if taken < 100 || refused < 1000 {
		t.Errorf("%d are taken, %d are not", taken, refused)
	}
}

func TestWhatIsTakenIsValidAndHasThisEncoding(t *testing.T) {
	mustTakeValidOnes(t, nodes())
	mustTakeValidOnes(t, queues())
	mustTakeValidOnes(t, tasks())
}

func mustTakeAgain[T any](t *testing.T, k kind[T]) {
	for _, v := range k.samples {
		b := k.put(nil, v)
		for size := range len(b) + 1 {
			k.take(b[:size], 0)
			for range 2 {
				mustTake(t, k, b[:size], 0)
			}
		}
		if again := k.put(nil, v); !slices.Equal(again, b) {
			t.Errorf("%+v, put again: %q, not %q", v, again, b)
		}
	}
}

func TestCallsDoNotDependOnEarlierOnes(t *testing.T) {
	mustTakeAgain(t, nodes())
	mustTakeAgain(t, queues())
	mustTakeAgain(t, tasks())
}

func mustTakeIntoNewMemory[T any](t *testing.T, k kind[T]) {
	for _, v := range k.samples {
		b := slices.Concat(k.put(nil, v), []byte("beyond"))
		kept := slices.Clone(b)
		w, _, _ := k.take(b[:len(b)-6], 0)
		if !slices.Equal(b, kept) {
			t.Errorf("taking %+v changed the bytes to %q", v, b)
		}
		clear(b)
		if !k.same(w, v) {
			t.Errorf("%+v became %+v with the bytes from which it was taken", v, w)
		}
		// The last byte is there, but beyond the length.
		mustFail(t, k, kept[:len(kept)-7], 0, api.ErrShort)
	}
}

func TestTakingIsIntoNewMemory(t *testing.T) {
	mustTakeIntoNewMemory(t, nodes())
	mustTakeIntoNewMemory(t, queues())
	mustTakeIntoNewMemory(t, tasks())
}

func TestLabelsThatAreTakenShareNoMemory(t *testing.T) {
	want := labels("a", "1", "b", "2", "c", "3")
	n := model.PutNode(nil, api.Node{Name: "n", Labels: want})
	k := model.PutTask(nil, api.Task{Name: "t", Queue: "q", Wants: want})
	one, _, _ := model.TakeNode(n, 0)
	other, _, _ := model.TakeNode(n, 0)
	first, _, _ := model.TakeTask(k, 0)
	second, _, _ := model.TakeTask(k, 0)
	clear(one.Labels)
	clear(first.Wants)
	_ = append(one.Labels, one.Labels...)
	_ = append(first.Wants, first.Wants...)
	if !slices.Equal(other.Labels, want) || !slices.Equal(second.Wants, want) {
		t.Errorf("writing to labels changed %q or %q", other.Labels, second.Wants)
	}
}
