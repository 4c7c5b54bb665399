package wheel_test

import (
	"math"
	"slices"
	"testing"

	"interregnum/wheel"
)

// dice returns a function whose numbers, from 0 to below n, have no pattern, but are the same ones for the same seed.
func dice(seed uint32) func(n int) int {
	return func(n int) int {
		seed = seed*1664525 + 1013904223
		return int(seed>>8) % n
	}
}

// table is what a wheel is by the words of the chapter: names and their times, all of which are examined.
type table map[string]int

func (l table) due(now int) []string {
	var names []string
	for name, at := range l {
		if at < now {
			names = append(names, name)
			delete(l, name)
		}
	}
	slices.Sort(names)
	return names
}

// moment returns a time near to 0 or, rarely, one of all sizes.
func moment(roll func(n int) int) int {
	switch roll(20) {
	case 0:
		return (roll(1<<24) - 1<<23) << roll(40)
	case 1:
		return math.MinInt + roll(40)
	case 2:
		return math.MaxInt - roll(40)
	}
	return roll(120) - 40
}

// mustAgree asks for the same names and times as in a table.
func mustAgree(t *testing.T, w *wheel.Wheel, l table) {
	t.Helper()
	if w.Len() != len(l) {
		t.Errorf("Len: %d, not %d", w.Len(), len(l))
	}
	for name, at := range l {
		mustHave(t, w, name, at)
	}
}

func TestManyCallsBesideATable(t *testing.T) {
	roll := dice(191)
	due, removed, again := 0, 0, 0
	for range 200 {
		w, l := wheel.New(), table{}
		count := 1 + roll(60)
		for range roll(300) {
			name := letters(roll(count))
			_, known := l[name]
			switch roll(8) {
			case 0:
				if w.Del(name) != known {
					t.Fatalf("Del of %q: not %t", name, known)
				}
				delete(l, name)
				if known {
					removed++
				}
			case 1:
				now := moment(roll)
				want := l.due(now)
				mustTake(t, w, now, want...)
				due += len(want)
			default:
				at := moment(roll)
				w.Set(name, at)
				l[name] = at
				if known {
					again++
				}
			}
			if _, known = l[name]; !known {
				mustLack(t, w, name)
			}
			mustAgree(t, w, l)
			if t.Failed() {
				t.FailNow()
			}
		}
	}
	if due < 1000 || removed < 1000 || again < 1000 {
		t.Errorf("only %d names due, %d removed, and %d set again", due, removed, again)
	}
}

func TestDueOfOneTimeAndThenOfALaterOne(t *testing.T) {
	roll := dice(192)
	first, second := 0, 0
	for range 2000 {
		parts, whole := wheel.New(), wheel.New()
		for i := range roll(40) {
			at := moment(roll)
			parts.Set(letters(i), at)
			whole.Set(letters(i), at)
		}
		now, later := moment(roll), moment(roll)
		if later < now {
			now, later = later, now
		}
		one := parts.Due(now)
		other := parts.Due(later)
		first, second = first+len(one), second+len(other)
		want := slices.Sorted(slices.Values(slices.Concat(one, other)))
		mustTake(t, whole, later, want...)
		mustTake(t, parts, later)
		mustTake(t, parts, now)
		if parts.Len() != whole.Len() {
			t.Fatalf("Len: %d, not %d", parts.Len(), whole.Len())
		}
	}
	if first < 1000 || second < 1000 {
		t.Errorf("only %d and %d names due", first, second)
	}
}

func TestTicksOfAClock(t *testing.T) {
	roll := dice(193)
	w, l := wheel.New(), table{}
	due := 0
	for clock := range 2000 {
		for range roll(3) {
			name := letters(roll(16))
			w.Set(name, clock+4)
			l[name] = clock + 4
		}
		want := l.due(clock)
		mustTake(t, w, clock, want...)
		mustAgree(t, w, l)
		due += len(want)
	}
	if due < 500 {
		t.Errorf("only %d names due", due)
	}
}

func TestManyNames(t *testing.T) {
	const count = 26 * 26 * 26
	w := wheel.New()
	for i := range count {
		w.Set(letters(i), count-i)
	}
	if w.Len() != count {
		t.Errorf("Len: %d", w.Len())
	}
	for i := range count {
		if i%2 == 0 && !w.Del(letters(i)) {
			t.Fatalf("Del of %q: false", letters(i))
		}
	}
	var want []string
	for i := count - 99; i < count; i += 2 {
		want = append(want, letters(i))
	}
	mustTake(t, w, 100, want...)
	mustHave(t, w, letters(1), count-1)
	mustLack(t, w, letters(2))
	if l := w.Due(count + 1); len(l) != count/2-len(want) || !slices.IsSorted(l) || w.Len() != 0 {
		t.Errorf("Due has %d, and %d are left", len(l), w.Len())
	}
	mustBeEmpty(t, w)
}

func TestOtherCallsChangeNothing(t *testing.T) {
	w := wheel.New()
	w.Set("a", 3)
	w.Set("b", -3)
	for range 3 {
		w.At("c")
		w.At("a")
		w.Del("c")
		w.Due(-3)
		w.Due(math.MinInt)
		w.Len()
		mustAgree(t, w, table{"a": 3, "b": -3})
		mustLack(t, w, "c")
	}
}

func TestArgumentsAreNotKept(t *testing.T) {
	w := wheel.New()
	name := []byte("ab")
	w.Set(string(name), 3)
	name[0] = 'z'
	mustHave(t, w, "ab", 3)
	mustLack(t, w, "zb")
	mustTake(t, w, 4, "ab")
}

func TestResultsAreInNewMemory(t *testing.T) {
	w := wheel.New()
	for i, name := range []string{"c", "a", "b", "f", "d", "e"} {
		w.Set(name, i/3)
	}
	one := w.Due(1)
	w.Set("g", 1)
	other := w.Due(2)
	for i := range one {
		one[i] = "z"
	}
	_ = append(one, "z", "z")
	if !slices.Equal(other, []string{"d", "e", "f", "g"}) {
		t.Errorf("writing to one result changed another one: %q", other)
	}
	mustBeEmpty(t, w)
	w.Set("a", 1)
	w.Set("h", 1)
	w.Due(2)
	if !slices.Equal(other, []string{"d", "e", "f", "g"}) {
		t.Errorf("a call changed an earlier result: %q", other)
	}
}

func TestWheelsDoNotDependOnEachOther(t *testing.T) {
	var zero wheel.Wheel
	one, other := wheel.New(), wheel.New()
	one.Set("a", 1)
	other.Set("a", 2)
	zero.Set("b", 3)
	mustHave(t, one, "a", 1)
	mustHave(t, other, "a", 2)
	mustTake(t, other, 9, "a")
	mustAgree(t, one, table{"a": 1})
	mustBeEmpty(t, other)
	mustAgree(t, &zero, table{"b": 3})
}

func TestTheSameCallsReturnTheSame(t *testing.T) {
	run := func() []string {
		roll := dice(194)
		w := wheel.New()
		var out []string
		for range 300 {
			for range 4 {
				w.Set(letters(roll(80)), moment(roll))
			}
			if roll(3) == 0 {
				w.Del(letters(roll(80)))
			}
			out = append(out, w.Due(moment(roll))...)
		}
		return out
	}
	want := run()
	for range 5 {
		if !slices.Equal(run(), want) {
			t.Fatal("the same calls returned something else")
		}
	}
}
