package bucket_test

import (
	"math"
	"slices"
	"testing"

	"interregnum/api"
	"interregnum/bucket"
)

// dice returns a function whose numbers, from 0 to below n, have no pattern, but are the same ones for the same seed.
func dice(seed uint32) func(n int) int {
	return func(n int) int {
		seed = seed*1664525 + 1013904223
		return int(seed>>8) % n
	}
}

// table is what an index is by the words of the chapter: names and their vectors, all of which are examined.
type table map[string]api.Res

func (l table) atLeast(a api.Res) []string {
	var names []string
	for name, b := range l {
		if a[0] <= b[0] && a[1] <= b[1] && a[2] <= b[2] {
			names = append(names, name)
		}
	}
	slices.Sort(names)
	return names
}

// vector returns one with numbers of all sizes, negative ones among them.
func vector(roll func(n int) int) api.Res {
	var a api.Res
	for i := range a {
		a[i] = (roll(1<<22) - 1<<20) >> roll(22)
	}
	switch roll(40) {
	case 0:
		a[roll(api.Dims)] = math.MinInt + roll(2)
	case 1:
		a[roll(api.Dims)] = math.MaxInt - roll(2)
	}
	return a
}

func TestManyCallsBesideATable(t *testing.T) {
	roll := dice(171)
	found, removed, again := 0, 0, 0
	for range 200 {
		x, l := bucket.New(), table{}
		count := 1 + roll(60)
		for range roll(200) {
			name := letters(roll(count))
			_, known := l[name]
			switch roll(4) {
			case 0:
				if x.Del(name) != known {
					t.Fatalf("Del of %q: not %t", name, known)
				}
				delete(l, name)
				if known {
					removed++
				}
			default:
				a := vector(roll)
				x.Put(name, a)
				l[name] = a
				if known {
					again++
				}
			}
			a := vector(roll)
			mustFind(t, x, a, l.atLeast(a)...)
			found += len(l.atLeast(a))
			mustHold(t, x, l.atLeast(least())...)
			if a, ok := x.Get(name); a != l[name] || ok != slices.Contains(l.atLeast(least()), name) {
				t.Errorf("Get of %q: %v, %t", name, a, ok)
			}
			if t.Failed() {
				t.FailNow()
			}
		}
		for name, a := range l {
			mustHave(t, x, name, a)
			mustFind(t, x, a, l.atLeast(a)...)
		}
	}
	if found < 1000 || removed < 1000 || again < 1000 {
		t.Errorf("only %d names found, %d removed, and %d put again", found, removed, again)
	}
}

func TestManyNames(t *testing.T) {
	const count = 26 * 26 * 26
	x := bucket.New()
	for i := range count {
		x.Put(letters(i), api.Res{count - i, i, -i})
	}
	if x.Len() != count {
		t.Errorf("Len: %d", x.Len())
	}
	var want []string
	for i := 1000; i <= 1200; i++ {
		want = append(want, letters(i))
	}
	mustFind(t, x, api.Res{count - 1200, 1000, -count}, want...)
	for i := range count {
		if i%2 == 0 && !x.Del(letters(i)) {
			t.Fatalf("Del of %q: false", letters(i))
		}
	}
	if l := x.AtLeast(least()); x.Len() != count/2 || len(l) != count/2 || !slices.IsSorted(l) {
		t.Errorf("Len: %d, and AtLeast has %d", x.Len(), len(l))
	}
	mustHave(t, x, letters(1), api.Res{count - 1, 1, -1})
	mustLack(t, x, letters(2))
}

func TestOtherCallsChangeNothing(t *testing.T) {
	x := bucket.New()
	x.Put("a", api.Res{1, 2, 3})
	x.Put("b", api.Res{-1, 2, 3})
	for range 3 {
		x.Get("c")
		x.Get("a")
		x.Del("c")
		x.AtLeast(api.Res{5, 5, 5})
		x.AtLeast(api.Res{0, 0, 0})
		x.Len()
		mustHold(t, x, "a", "b")
		mustHave(t, x, "a", api.Res{1, 2, 3})
		mustHave(t, x, "b", api.Res{-1, 2, 3})
		mustLack(t, x, "c")
	}
}

func TestArgumentsAreNotKept(t *testing.T) {
	x := bucket.New()
	name, a := []byte("ab"), api.Res{1, 2, 3}
	x.Put(string(name), a)
	name[0], a[0] = 'z', 9
	mustHave(t, x, "ab", api.Res{1, 2, 3})
	got, _ := x.Get("ab")
	got[1] = 9
	mustHave(t, x, "ab", api.Res{1, 2, 3})
	want := api.Res{1, 1, 1}
	x.AtLeast(want)
	if want != (api.Res{1, 1, 1}) {
		t.Errorf("AtLeast changed its argument: %v", want)
	}
}

func TestResultsAreInNewMemory(t *testing.T) {
	x := bucket.New()
	for _, name := range []string{"c", "a", "b"} {
		x.Put(name, api.Res{1, 1, 1})
	}
	one, other := x.AtLeast(api.Res{}), x.AtLeast(api.Res{})
	for i := range one {
		one[i] = "z"
	}
	_ = append(one, "z", "z")
	if !slices.Equal(other, []string{"a", "b", "c"}) {
		t.Errorf("writing to one result changed another one: %q", other)
	}
	mustHold(t, x, "a", "b", "c")
	x.Put("aa", api.Res{1, 1, 1})
	x.Del("a")
	if !slices.Equal(other, []string{"a", "b", "c"}) {
		t.Errorf("a call changed an earlier result: %q", other)
	}
}

func TestIndexesDoNotDependOnEachOther(t *testing.T) {
	var zero bucket.Index
	one, other := bucket.New(), bucket.New()
	one.Put("a", api.Res{1, 0, 0})
	other.Put("a", api.Res{2, 0, 0})
	zero.Put("b", api.Res{1, 0, 0})
	mustHave(t, one, "a", api.Res{1, 0, 0})
	mustHave(t, other, "a", api.Res{2, 0, 0})
	other.Del("a")
	mustHold(t, one, "a")
	mustHold(t, other)
	mustHold(t, &zero, "b")
}

func TestTheSameCallsReturnTheSame(t *testing.T) {
	run := func() []string {
		roll := dice(172)
		x := bucket.New()
		var out []string
		for range 300 {
			x.Put(letters(roll(80)), vector(roll))
			if roll(3) == 0 {
				x.Del(letters(roll(80)))
			}
			out = append(out, x.AtLeast(vector(roll))...)
		}
		return out
	}
	want := run()
	for range 5 {
		if !slices.Equal(run(), want) {
			t.Fatal("the same calls returned something else")
		}
	}
}
