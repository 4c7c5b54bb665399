package wheel_test

import (
	"math"
	"slices"
	"strings"
	"testing"

	"interregnum/wheel"
)

// mustHave asks that a name is due at a time.
func mustHave(t *testing.T, w *wheel.Wheel, name string, want int) {
	t.Helper()
	if at, ok := w.At(name); at != want || !ok {
		t.Errorf("At of %q: %d, %t, not %d", name, at, ok, want)
	}
}

// mustLack asks that a wheel does not have a name, by each call that tells and removes nothing else.
func mustLack(t *testing.T, w *wheel.Wheel, name string) {
	t.Helper()
	if at, ok := w.At(name); at != 0 || ok {
		t.Errorf("At of %q: %d, %t", name, at, ok)
	}
	if w.Del(name) {
		t.Errorf("Del of %q: true", name)
	}
}

// mustTake asks which names are due before now, and that these, and no other ones, are removed.
func mustTake(t *testing.T, w *wheel.Wheel, now int, want ...string) {
	t.Helper()
	before := w.Len()
	if l := w.Due(now); !slices.Equal(l, want) {
		t.Errorf("Due before %d: %q, not %q", now, l, want)
	}
	for _, name := range want {
		mustLack(t, w, name)
	}
	if w.Len() != before-len(want) {
		t.Errorf("Due before %d lets %d of %d names be", now, w.Len(), before)
	}
	if l := w.Due(now); l != nil {
		t.Errorf("Due before %d again: %q", now, l)
	}
}

// mustBeEmpty asks that a wheel has no names.
func mustBeEmpty(t *testing.T, w *wheel.Wheel) {
	t.Helper()
	if n := w.Len(); n != 0 {
		t.Errorf("Len: %d", n)
	}
	mustTake(t, w, math.MaxInt)
}

// times returns numbers in ascending order: some turns of a wheel around 0, and the bounds of all powers of two.
func times() []int {
	list := []int{math.MinInt, math.MinInt + 1, math.MinInt + 15, math.MinInt + 16, math.MinInt + 17}
	for n := -50; n <= 50; n++ {
		list = append(list, n)
	}
	for n := 1; n > 0; n <<= 1 {
		list = append(list, -n-1, -n, 1-n, n-1, n, n+1)
	}
	list = append(list, math.MaxInt-17, math.MaxInt-16, math.MaxInt-15, math.MaxInt-1, math.MaxInt)
	slices.Sort(list)
	return slices.Compact(list)
}

// letters returns names in ascending order: one for each number from 0 to below 26 * 26 * 26.
func letters(i int) string {
	return string([]byte{'a' + byte(i/26/26), 'a' + byte(i/26%26), 'a' + byte(i%26)})
}

func TestTheExamples(t *testing.T) {
	w := wheel.New()
	w.Set("b", 5)
	w.Set("a", 3)
	w.Set("c", 19)
	w.Set("d", 3)
	mustTake(t, w, 3)
	w.Set("d", 4)
	mustTake(t, w, 4, "a")
	mustTake(t, w, 20, "b", "c", "d")
	mustBeEmpty(t, w)
	w.Set("a", 3)
	w.Set("b", 5)
	mustTake(t, w, 4, "a")
	mustTake(t, w, 6, "b")
	mustBeEmpty(t, w)
}

func TestANewWheelAndTheZeroWheelAreEmpty(t *testing.T) {
	var zero wheel.Wheel
	for _, w := range []*wheel.Wheel{wheel.New(), {}, &zero} {
		mustBeEmpty(t, w)
		mustLack(t, w, "")
		mustLack(t, w, "a")
		for _, now := range times() {
			mustTake(t, w, now)
		}
		w.Set("b", 7)
		w.Set("a", -7)
		if w.Len() != 2 {
			t.Errorf("Len: %d", w.Len())
		}
		mustHave(t, w, "b", 7)
		mustHave(t, w, "a", -7)
		mustLack(t, w, "")
		mustTake(t, w, 8, "a", "b")
		mustBeEmpty(t, w)
	}
}

func TestANilWheel(t *testing.T) {
	var w *wheel.Wheel
	for _, at := range times() {
		w.Set("a", at)
		w.Set("", at)
		mustLack(t, w, "a")
		mustLack(t, w, "")
		mustTake(t, w, at)
		mustBeEmpty(t, w)
	}
}

func TestNew(t *testing.T) {
	w := wheel.New()
	if w == nil || w == wheel.New() {
		t.Fatal("New is not a new wheel")
	}
	w.Set("a", 1)
	mustBeEmpty(t, wheel.New())
}

func TestOnlyTheLatestTimeCounts(t *testing.T) {
	w := wheel.New()
	w.Set("other", math.MaxInt)
	all := times()
	for i, first := range all {
		second := all[(i*37+11)%len(all)]
		for _, pair := range [][2]int{{first, second}, {second, first}, {first, first}, {first, -first}, {first, first + 16}} {
			w.Set("a", pair[0])
			w.Set("a", pair[1])
			mustHave(t, w, "a", pair[1])
			if w.Len() != 2 {
				t.Errorf("Len behind two times of one name: %d", w.Len())
			}
			mustTake(t, w, pair[1])
			mustHave(t, w, "a", pair[1])
			if pair[1] < math.MaxInt {
				mustTake(t, w, pair[1]+1, "a")
			} else if !w.Del("a") {
				t.Error("Del: false")
			}
			mustLack(t, w, "a")
		}
	}
	mustHave(t, w, "other", math.MaxInt)
}

func TestSetAgainToTheSameTime(t *testing.T) {
	w := wheel.New()
	for range 3 {
		w.Set("a", 21)
		if w.Len() != 1 {
			t.Errorf("Len: %d", w.Len())
		}
		mustHave(t, w, "a", 21)
	}
	mustTake(t, w, 22, "a")
	mustBeEmpty(t, w)
}

func TestDel(t *testing.T) {
	w := wheel.New()
	w.Set("a", 3)
	w.Set("b", 19)
	w.Set("c", -13)
	w.Set("e", 4)
	for _, name := range []string{"d", "", "aa", "A", "3"} {
		mustLack(t, w, name)
	}
	if !w.Del("a") {
		t.Error("Del: false")
	}
	mustLack(t, w, "a")
	if w.Len() != 3 {
		t.Errorf("Len: %d", w.Len())
	}
	mustHave(t, w, "b", 19)
	mustHave(t, w, "c", -13)
	mustHave(t, w, "e", 4)
	w.Set("a", 35)
	mustHave(t, w, "a", 35)
	for i, name := range []string{"b", "c", "a"} {
		if !w.Del(name) || w.Len() != 3-i {
			t.Errorf("Del of %q, and %d are left", name, w.Len())
		}
	}
	mustTake(t, w, math.MaxInt, "e")
	mustBeEmpty(t, w)
}

func TestTheTimeItselfIsNotBelow(t *testing.T) {
	for _, at := range times() {
		w := wheel.New()
		w.Set("a", at)
		mustTake(t, w, math.MinInt)
		if at > math.MinInt {
			mustTake(t, w, at-1)
		}
		mustTake(t, w, at)
		mustHave(t, w, "a", at)
		if at < math.MaxInt {
			mustTake(t, w, at+1, "a")
			mustBeEmpty(t, w)
		}
	}
}

func TestAnyTimesAndAnyTimeToAsk(t *testing.T) {
	all := times()
	for i, now := range all {
		w := wheel.New()
		var due []string
		for k, at := range all {
			w.Set(letters(k), at)
			if k < i {
				due = append(due, letters(k))
			}
		}
		if w.Len() != len(all) {
			t.Fatalf("Len: %d of %d", w.Len(), len(all))
		}
		mustTake(t, w, now, due...)
		for k, at := range all[i:] {
			mustHave(t, w, letters(i+k), at)
		}
	}
}

func TestTimesThatAreDueOneAfterTheOther(t *testing.T) {
	all := times()
	w := wheel.New()
	for i, at := range all {
		w.Set(letters(i), at)
	}
	for i, at := range all {
		if i == 0 {
			mustTake(t, w, at)
		} else {
			mustTake(t, w, at, letters(i-1))
		}
	}
	last := len(all) - 1
	mustHave(t, w, letters(last), all[last])
	if w.Len() != 1 {
		t.Errorf("Len: %d", w.Len())
	}
}

func TestATimeThatIsOverAlready(t *testing.T) {
	w := wheel.New()
	for _, now := range []int{100, 5, math.MaxInt, -100, 0} {
		w.Set("a", now)
		mustTake(t, w, now)
		w.Set("b", now-1)
		w.Set("c", now-17)
		w.Set("d", math.MinInt)
		mustTake(t, w, now, "b", "c", "d")
		mustHave(t, w, "a", now)
		if !w.Del("a") {
			t.Error("Del: false")
		}
	}
	mustBeEmpty(t, w)
}

func TestNamesOfAnyBytesAreInBytewiseOrder(t *testing.T) {
	want := []string{"", "\x00", "\x00\x00", "\n", " ", "-", "0", "10", "9", "A", "B", "Z", "a", "a\x00", "a-", "aa", "ab", "b", "z", "\x7f", "\x80", "ä", "é", "€", "\xff", "\xff\xff", "\xff" + strings.Repeat("\xff", 1000)}
	for _, step := range []int{1, 2, 4, 5, 25} {
		w := wheel.New()
		for i := range want {
			at := i * step % len(want)
			w.Set(want[at], at*7%31)
		}
		mustHave(t, w, "", 0)
		mustTake(t, w, 1, "")
		mustTake(t, w, 31, want[1:]...)
		mustBeEmpty(t, w)
	}
}

func TestNamesWithOneTime(t *testing.T) {
	for _, at := range []int{-16, -3, 0, 3, 16} {
		w := wheel.New()
		for _, name := range []string{"d", "b", "e", "a", "c"} {
			w.Set(name, at)
		}
		w.Del("c")
		mustTake(t, w, at)
		mustTake(t, w, at+1, "a", "b", "d", "e")
		mustBeEmpty(t, w)
	}
}
