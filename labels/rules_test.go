package labels_test

import (
	"slices"
	"testing"

	"interregnum/api"
	"interregnum/ident"
	"interregnum/labels"
)

// dice returns a function whose numbers, from 0 to below n, have no pattern, but are the same ones for the same seed.
func dice(seed uint32) func(n int) int {
	return func(n int) int {
		seed = seed*1664525 + 1013904223
		return int(seed>>8) % n
	}
}

// table is what an index is by the words of the chapter: names and their labels, all of which are examined.
type table map[string][]api.Label

func (l table) with(wants []api.Label) []string {
	var names []string
	for name, own := range l {
		if ident.Has(own, wants) {
			names = append(names, name)
		}
	}
	slices.Sort(names)
	return names
}

// some returns fewer than size labels, of which some repeat, and some have the same key.
func some(roll func(n int) int, size int) []api.Label {
	var l []api.Label
	for range roll(size) {
		l = append(l, api.Label{Key: []string{"", "a", "b", "ab"}[roll(4)], Value: []string{"", "a", "b"}[roll(3)]})
	}
	return l
}

// mustAgree asks for the same names as in a table.
func mustAgree(t *testing.T, x *labels.Index, l table, wants []api.Label) int {
	t.Helper()
	want := l.with(wants)
	mustFind(t, x, wants, want...)
	return len(want)
}

func TestManyCallsBesideATable(t *testing.T) {
	roll := dice(181)
	found, removed, again := 0, 0, 0
	for range 200 {
		x, l := labels.New(), table{}
		count := 1 + roll(60)
		for range roll(200) {
			name := letters(roll(count))
			_, known := l[name]
			if roll(4) == 0 {
				if x.Del(name) != known {
					t.Fatalf("Del of %q: not %t", name, known)
				}
				delete(l, name)
				if known {
					removed++
				}
			} else {
				own := some(roll, 9)
				x.Put(name, own)
				l[name] = own
				if known {
					again++
				}
			}
			found += mustAgree(t, x, l, some(roll, 5))
			mustHold(t, x, l.with(nil)...)
			if t.Failed() {
				t.FailNow()
			}
		}
		for _, own := range l {
			mustAgree(t, x, l, own)
		}
	}
	if found < 1000 || removed < 1000 || again < 1000 {
		t.Errorf("only %d names found, %d removed, and %d put again", found, removed, again)
	}
}

func TestTheOneListAndTheOther(t *testing.T) {
	roll := dice(182)
	both := 0
	for range 300 {
		x := labels.New()
		for i := range roll(40) {
			x.Put(letters(i), some(roll, 9))
		}
		for range 20 {
			one, other := some(roll, 4), some(roll, 4)
			theirs := x.With(other)
			want := slices.DeleteFunc(x.With(one), func(name string) bool { return !slices.Contains(theirs, name) })
			mustFind(t, x, slices.Concat(one, other), want...)
			mustFind(t, x, slices.Concat(other, one), want...)
			mustFind(t, x, slices.Concat(one, other, one), want...)
			both += len(want)
		}
		if t.Failed() {
			t.FailNow()
		}
	}
	if both < 1000 {
		t.Errorf("only %d names with both", both)
	}
}

func TestManyNames(t *testing.T) {
	const count = 26 * 26 * 26
	x := labels.New()
	for i := range count {
		x.Put(letters(i), pairs("one", letters(i), "ten", letters(i/10), "last", letters(i%10), "all", "all"))
	}
	if x.Len() != count || len(x.With(pairs("all", "all"))) != count {
		t.Errorf("Len: %d", x.Len())
	}
	for i := range count {
		mustFind(t, x, pairs("all", "all", "one", letters(i), "last", letters(i%10)), letters(i))
		mustFind(t, x, pairs("last", letters(i%10), "ten", letters(i/10), "all", "all"), letters(i))
		mustFind(t, x, pairs("one", letters(i), "last", letters((i+1)%10)))
		if t.Failed() {
			t.FailNow()
		}
	}
	for i := range count {
		if i%2 == 0 && !x.Del(letters(i)) {
			t.Fatalf("Del of %q: false", letters(i))
		}
	}
	if l := x.With(nil); x.Len() != count/2 || len(l) != count/2 || !slices.IsSorted(l) {
		t.Errorf("Len: %d, and With has %d", x.Len(), len(l))
	}
	mustFind(t, x, pairs("ten", letters(0)), letters(1), letters(3), letters(5), letters(7), letters(9))
	mustFind(t, x, pairs("last", letters(2)))
	mustLack(t, x, letters(2))
}

func TestOneLabelWantedVeryOften(t *testing.T) {
	x := labels.New()
	for i := range 10000 {
		x.Put(letters(i), pairs("gpu", "1"))
	}
	wants := slices.Repeat(pairs("gpu", "1"), 1000000)
	if l := x.With(wants); len(l) != 10000 || !slices.IsSorted(l) {
		t.Errorf("With has %d", len(l))
	}
}

func TestOtherCallsChangeNothing(t *testing.T) {
	x := labels.New()
	x.Put("a", pairs("gpu", "1"))
	x.Put("b", nil)
	for range 3 {
		x.Del("c")
		x.Len()
		x.With(nil)
		x.With(pairs("gpu", "2"))
		x.With(pairs("gpu", "1", "zone", "2"))
		mustHold(t, x, "a", "b")
		mustFind(t, x, pairs("gpu", "1"), "a")
		mustFind(t, x, pairs("gpu", "2"))
		mustLack(t, x, "c")
	}
}

func TestArgumentsAreNeitherModifiedNorKept(t *testing.T) {
	x := labels.New()
	whole := pairs("zone", "2", "gpu", "1", "gpu", "1", "behind", "3")
	l := whole[:3]
	x.Put("a", l)
	x.Put("b", l[:1])
	mustFind(t, x, l, "a")
	mustFind(t, x, pairs("behind", "3"))
	if !slices.Equal(whole, pairs("zone", "2", "gpu", "1", "gpu", "1", "behind", "3")) {
		t.Errorf("an argument was modified: %q", whole)
	}
	for i := range whole {
		whole[i] = api.Label{Key: "other", Value: "4"}
	}
	mustFind(t, x, pairs("zone", "2"), "a", "b")
	mustFind(t, x, pairs("gpu", "1"), "a")
	mustFind(t, x, pairs("other", "4"))
	x.Put("b", nil)
	if !x.Del("a") {
		t.Error("Del: false")
	}
	mustFind(t, x, pairs("zone", "2"))
	mustFind(t, x, pairs("gpu", "1"))
	mustHold(t, x, "b")
}

func TestResultsAreInNewMemory(t *testing.T) {
	for _, wants := range [][]api.Label{nil, pairs("gpu", "1"), pairs("gpu", "1", "zone", "2")} {
		x := labels.New()
		for _, name := range []string{"c", "a", "b"} {
			x.Put(name, pairs("gpu", "1", "zone", "2"))
		}
		one, other := x.With(wants), x.With(wants)
		for i := range one {
			one[i] = "z"
		}
		_ = append(one, "z", "z")
		if !slices.Equal(other, []string{"a", "b", "c"}) {
			t.Errorf("writing to one result changed another one: %q", other)
		}
		mustHold(t, x, "a", "b", "c")
		mustFind(t, x, wants, "a", "b", "c")
		x.Put("aa", pairs("gpu", "1", "zone", "2"))
		x.Del("a")
		if !slices.Equal(other, []string{"a", "b", "c"}) {
			t.Errorf("a call changed an earlier result: %q", other)
		}
	}
}

func TestIndexesDoNotDependOnEachOther(t *testing.T) {
	var zero labels.Index
	one, other := labels.New(), labels.New()
	l := pairs("gpu", "1")
	one.Put("a", l)
	other.Put("a", l)
	zero.Put("b", l)
	other.Put("a", pairs("gpu", "2"))
	mustFind(t, one, pairs("gpu", "1"), "a")
	mustFind(t, other, pairs("gpu", "1"))
	other.Del("a")
	mustHold(t, one, "a")
	mustHold(t, other)
	mustHold(t, &zero, "b")
}

func TestTheSameCallsReturnTheSame(t *testing.T) {
	run := func() []string {
		roll := dice(183)
		x := labels.New()
		var out []string
		for range 300 {
			x.Put(letters(roll(80)), some(roll, 9))
			if roll(3) == 0 {
				x.Del(letters(roll(80)))
			}
			out = append(out, x.With(some(roll, 4))...)
		}
		return out
	}
	want := run()
	for range 5 {
		if !slices.Equal(run(), want) {
			t.Fatal("the same calls returned something else")
		}
	}
}
