package bucket_test

import (
	"math"
	"slices"
	"strings"
	"testing"

	"interregnum/api"
	"interregnum/bucket"
	"interregnum/res"
)

// mustHave asks that an index has a name with a vector.
func mustHave(t *testing.T, x *bucket.Index, name string, want api.Res) {
	t.Helper()
	if a, ok := x.Get(name); a != want || !ok {
		t.Errorf("Get of %q: %v, %t, not %v", name, a, ok, want)
	}
}

// mustLack asks that an index does not have a name, by each call that tells.
func mustLack(t *testing.T, x *bucket.Index, name string) {
	t.Helper()
	if a, ok := x.Get(name); a != (api.Res{}) || ok {
		t.Errorf("Get of %q: %v, %t", name, a, ok)
	}
	if x.Del(name) {
		t.Errorf("Del of %q: true", name)
	}
	if slices.Contains(x.AtLeast(least()), name) {
		t.Errorf("AtLeast has %q", name)
	}
}

// mustFind asks which names have at least a.
func mustFind(t *testing.T, x *bucket.Index, a api.Res, want ...string) {
	t.Helper()
	if l := x.AtLeast(a); !slices.Equal(l, want) {
		t.Errorf("AtLeast of %v: %q, not %q", a, l, want)
	}
}

// mustHold asks that an index has just these names, in ascending order.
func mustHold(t *testing.T, x *bucket.Index, want ...string) {
	t.Helper()
	mustFind(t, x, least(), want...)
	if n := x.Len(); n != len(want) {
		t.Errorf("Len: %d, not %d", n, len(want))
	}
}

// least returns the vector that fits all.
func least() api.Res {
	return api.Res{math.MinInt, math.MinInt, math.MinInt}
}

// bounds returns the numbers next to those from which on numbers have one bit more, and the same below 0.
func bounds() []int {
	list := []int{math.MinInt, math.MinInt + 1, -1, 0}
	for n := 1; n > 0; n <<= 1 {
		list = append(list, -n-1, -n, 1-n, n-1, n, n+1)
	}
	list = append(list, math.MaxInt-1, math.MaxInt)
	slices.Sort(list)
	return slices.Compact(list)
}

func TestTheExamples(t *testing.T) {
	x := bucket.New()
	x.Put("a", api.Res{4, 0, 0})
	x.Put("b", api.Res{2, 9, 9})
	mustFind(t, x, api.Res{3, 0, 0}, "a")
	mustFind(t, x, api.Res{-1, -1, -1}, "a", "b")
	x.Put("a", api.Res{1, 2, 3})
	mustHave(t, x, "a", api.Res{1, 2, 3})
	mustFind(t, x, api.Res{3, 0, 0})
	mustFind(t, x, api.Res{0, 1, 0}, "a", "b")
	mustHold(t, x, "a", "b")
}

func TestANewIndexAndTheZeroIndexAreEmpty(t *testing.T) {
	var zero bucket.Index
	for _, x := range []*bucket.Index{bucket.New(), {}, &zero} {
		mustHold(t, x)
		mustLack(t, x, "")
		mustLack(t, x, "a")
		mustFind(t, x, api.Res{})
		x.Put("b", api.Res{1, 2, 3})
		x.Put("a", api.Res{1 << 20, 0, -1})
		mustHold(t, x, "a", "b")
		mustHave(t, x, "b", api.Res{1, 2, 3})
		mustHave(t, x, "a", api.Res{1 << 20, 0, -1})
		mustLack(t, x, "")
		if !x.Del("a") || !x.Del("b") {
			t.Error("Del: false")
		}
		mustHold(t, x)
	}
}

func TestANilIndex(t *testing.T) {
	var x *bucket.Index
	x.Put("a", api.Res{1, 2, 3})
	mustHold(t, x)
	mustLack(t, x, "a")
	mustLack(t, x, "")
	for _, n := range bounds() {
		if l := x.AtLeast(api.Res{n, n, n}); l != nil {
			t.Errorf("AtLeast: %q", l)
		}
	}
}

func TestNew(t *testing.T) {
	x := bucket.New()
	if x == nil || x == bucket.New() {
		t.Fatal("New is not a new index")
	}
	x.Put("a", api.Res{})
	mustHold(t, bucket.New())
}

func TestOnlyTheLatestVectorCounts(t *testing.T) {
	x := bucket.New()
	x.Put("other", api.Res{8, 8, 8})
	for _, first := range bounds() {
		for _, second := range bounds() {
			x.Put("a", api.Res{first, 1, 2})
			x.Put("a", api.Res{second, 3, 0})
			mustHave(t, x, "a", api.Res{second, 3, 0})
			mustHold(t, x, "a", "other")
			mustFind(t, x, api.Res{second, 3, 0}, named(8 >= second, "a", "other")...)
			mustFind(t, x, api.Res{math.MinInt, 1, 2}, "other")
			if !x.Del("a") {
				t.Error("Del: false")
			}
			mustLack(t, x, "a")
			mustHold(t, x, "other")
		}
	}
	mustHave(t, x, "other", api.Res{8, 8, 8})
}

// named returns the first name, and the other one if it is to be there, too.
func named(both bool, first, other string) []string {
	if both {
		return []string{first, other}
	}
	return []string{first}
}

func TestPutAgainWithTheSameVector(t *testing.T) {
	x := bucket.New()
	for range 3 {
		x.Put("a", api.Res{5, 6, 7})
		mustHold(t, x, "a")
		mustFind(t, x, api.Res{5, 6, 7}, "a")
	}
	if !x.Del("a") || x.Del("a") {
		t.Error("Del does not remove what was put several times")
	}
	mustHold(t, x)
}

func TestDel(t *testing.T) {
	x := bucket.New()
	x.Put("a", api.Res{4, 0, 0})
	x.Put("b", api.Res{5, 0, 0})
	x.Put("c", api.Res{-5, 0, 0})
	if x.Del("d") || x.Del("") || x.Del("aa") {
		t.Error("Del of a name that is not there: true")
	}
	mustHold(t, x, "a", "b", "c")
	if !x.Del("a") {
		t.Error("Del: false")
	}
	mustLack(t, x, "a")
	mustHold(t, x, "b", "c")
	x.Put("a", api.Res{-6, 0, 0})
	mustHold(t, x, "a", "b", "c")
	mustFind(t, x, api.Res{-5, 0, 0}, "b", "c")
	for i, name := range []string{"b", "c", "a"} {
		if !x.Del(name) || x.Len() != 2-i {
			t.Errorf("Del of %q, and %d are left", name, x.Len())
		}
	}
	mustHold(t, x)
}

func TestEachNumberMustFit(t *testing.T) {
	x := bucket.New()
	x.Put("a", api.Res{4, 5, 6})
	mustFind(t, x, api.Res{4, 5, 6}, "a")
	for i := range api.Dims {
		a := api.Res{4, 5, 6}
		a[i]++
		mustFind(t, x, a)
		a[i] -= 2
		mustFind(t, x, a, "a")
		a = least()
		a[i] = math.MaxInt
		mustFind(t, x, a)
		a = api.Res{4, 5, 6}
		a[i] = math.MinInt
		mustFind(t, x, a, "a")
	}
}

func TestFirstNumbersWithAnyNumberOfBits(t *testing.T) {
	x := bucket.New()
	all := bounds()
	for i, n := range all {
		x.Put(letters(i), api.Res{n, -n, 0})
	}
	for i, n := range all {
		var want []string
		for k := i; k < len(all); k++ {
			want = append(want, letters(k))
		}
		mustFind(t, x, api.Res{n, math.MinInt, 0}, want...)
		mustHave(t, x, letters(i), api.Res{n, -n, 0})
	}
	if x.Len() != len(all) || len(x.AtLeast(api.Res{math.MinInt, math.MinInt, 1})) != 0 {
		t.Errorf("Len: %d of %d", x.Len(), len(all))
	}
}

// letters returns names in ascending order: one for each number from 0 to below 26 * 26 * 26.
func letters(i int) string {
	return string([]byte{'a' + byte(i/26/26), 'a' + byte(i/26%26), 'a' + byte(i%26)})
}

func TestVectorsWithAnyNumbers(t *testing.T) {
	numbers := []int{math.MinInt, math.MinInt + 1, -8, -7, -1, 0, 1, 7, 8, api.MaxRes, api.MaxRes + 1, math.MaxInt - 1, math.MaxInt}
	var vectors []api.Res
	for _, first := range numbers {
		for _, second := range numbers {
			for _, third := range []int{math.MinInt, -1, 0, math.MaxInt} {
				vectors = append(vectors, api.Res{first, second, third})
			}
		}
	}
	x := bucket.New()
	for i, a := range vectors {
		x.Put(letters(i), a)
	}
	for _, a := range vectors {
		var want []string
		for i, b := range vectors {
			if a[0] <= b[0] && a[1] <= b[1] && a[2] <= b[2] {
				want = append(want, letters(i))
			}
			if res.Fits(a, b) != (a[0] <= b[0] && a[1] <= b[1] && a[2] <= b[2]) {
				t.Fatalf("Fits of %v, %v", a, b)
			}
		}
		mustFind(t, x, a, want...)
	}
}

func TestNamesOfAnyBytesAreInBytewiseOrder(t *testing.T) {
	want := []string{"", "\x00", "\x00\x00", "\n", " ", "-", "0", "10", "9", "A", "B", "Z", "a", "a\x00", "a-", "aa", "ab", "b", "z", "\x7f", "\x80", "ä", "é", "€", "\xff", "\xff\xff", "\xff" + strings.Repeat("\xff", 1000)}
	for _, step := range []int{1, 2, 4, 5, 25} {
		x := bucket.New()
		for i := range want {
			at := i * step % len(want)
			x.Put(want[at], api.Res{1 << (at * 7 % 31), at, 0})
		}
		mustHold(t, x, want...)
		mustFind(t, x, api.Res{0, 1, 0}, want[1:]...)
		mustHave(t, x, "", api.Res{1, 0, 0})
		if !x.Del("") || x.Del("") || !x.Del("\xff") {
			t.Error("Del")
		}
		mustHold(t, x, slices.DeleteFunc(slices.Clone(want), func(name string) bool { return name == "" || name == "\xff" })...)
	}
}

func TestNamesWithOneVector(t *testing.T) {
	x := bucket.New()
	for _, name := range []string{"d", "b", "e", "a", "c"} {
		x.Put(name, api.Res{1, 1, 1})
	}
	mustFind(t, x, api.Res{1, 1, 1}, "a", "b", "c", "d", "e")
	mustFind(t, x, api.Res{1, 1, 2})
	x.Del("c")
	mustFind(t, x, api.Res{}, "a", "b", "d", "e")
}
