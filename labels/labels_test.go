package labels_test

import (
	"slices"
	"strings"
	"testing"

	"interregnum/api"
	"interregnum/labels"
)

// pairs returns labels of keys and values in turn.
func pairs(words ...string) []api.Label {
	var l []api.Label
	for i := 0; i+1 < len(words); i += 2 {
		l = append(l, api.Label{Key: words[i], Value: words[i+1]})
	}
	return l
}

// mustFind asks which names have labels.
func mustFind(t *testing.T, x *labels.Index, wants []api.Label, want ...string) {
	t.Helper()
	if l := x.With(wants); !slices.Equal(l, want) {
		t.Errorf("With of %q: %q, not %q", wants, l, want)
	}
}

// mustHold asks that an index has just these names, in ascending order.
func mustHold(t *testing.T, x *labels.Index, want ...string) {
	t.Helper()
	mustFind(t, x, nil, want...)
	mustFind(t, x, []api.Label{}, want...)
	if n := x.Len(); n != len(want) {
		t.Errorf("Len: %d, not %d", n, len(want))
	}
}

// mustLack asks that an index does not have a name, by each call that tells.
func mustLack(t *testing.T, x *labels.Index, name string) {
	t.Helper()
	if slices.Contains(x.With(nil), name) {
		t.Errorf("With has %q", name)
	}
	if x.Del(name) {
		t.Errorf("Del of %q: true", name)
	}
}

func TestTheExamples(t *testing.T) {
	x := labels.New()
	x.Put("a", pairs("gpu", "1"))
	x.Put("b", pairs("gpu", "1", "zone", "2"))
	mustFind(t, x, pairs("gpu", "1"), "a", "b")
	mustFind(t, x, pairs("gpu", "1", "zone", "2"), "b")
	mustFind(t, x, pairs("zone", "2"), "b")
	mustFind(t, x, pairs("gpu", "2"))
	mustHold(t, x, "a", "b")
}

func TestANewIndexAndTheZeroIndexAreEmpty(t *testing.T) {
	var zero labels.Index
	for _, x := range []*labels.Index{labels.New(), {}, &zero} {
		mustHold(t, x)
		mustLack(t, x, "")
		mustLack(t, x, "a")
		mustFind(t, x, pairs("gpu", "1"))
		mustFind(t, x, pairs("", ""))
		x.Put("b", pairs("gpu", "1"))
		x.Put("a", nil)
		mustHold(t, x, "a", "b")
		mustFind(t, x, pairs("gpu", "1"), "b")
		mustLack(t, x, "")
		if !x.Del("a") || !x.Del("b") {
			t.Error("Del: false")
		}
		mustHold(t, x)
		mustFind(t, x, pairs("gpu", "1"))
	}
}

func TestANilIndex(t *testing.T) {
	var x *labels.Index
	for _, l := range [][]api.Label{nil, {}, pairs("gpu", "1"), pairs("", "", "gpu", "1")} {
		x.Put("a", l)
		x.Put("", l)
		if names := x.With(l); names != nil {
			t.Errorf("With of %q: %q", l, names)
		}
		mustHold(t, x)
		mustLack(t, x, "a")
		mustLack(t, x, "")
	}
}

func TestNew(t *testing.T) {
	x := labels.New()
	if x == nil || x == labels.New() {
		t.Fatal("New is not a new index")
	}
	x.Put("a", pairs("gpu", "1"))
	mustHold(t, labels.New())
	mustFind(t, labels.New(), pairs("gpu", "1"))
}

func TestOnlyTheLatestLabelsCount(t *testing.T) {
	x := labels.New()
	x.Put("b", pairs("c", "1"))
	lists := [][]api.Label{nil, {}, pairs("c", "1"), pairs("c", "2"), pairs("d", "1"), pairs("c", "1", "d", "1"), pairs("d", "1", "c", "2", "d", "1")}
	for _, first := range lists {
		for _, second := range lists {
			x.Put("a", first)
			x.Put("a", second)
			mustHold(t, x, "a", "b")
			for _, want := range pairs("c", "1", "c", "2", "d", "1", "d", "2") {
				mustFind(t, x, []api.Label{want}, among(slices.Contains(second, want), want.Key == "c" && want.Value == "1")...)
			}
			if !x.Del("a") {
				t.Error("Del: false")
			}
			mustLack(t, x, "a")
			mustHold(t, x, "b")
			mustFind(t, x, pairs("c", "1"), "b")
			mustFind(t, x, pairs("d", "1"))
		}
	}
}

// among returns those of the names a and b that are to be there.
func among(a, b bool) []string {
	var names []string
	if a {
		names = append(names, "a")
	}
	if b {
		names = append(names, "b")
	}
	return names
}

func TestPutAgainWithTheSameLabels(t *testing.T) {
	x := labels.New()
	for range 3 {
		x.Put("a", pairs("gpu", "1", "zone", "2"))
		mustHold(t, x, "a")
		mustFind(t, x, pairs("gpu", "1"), "a")
		mustFind(t, x, pairs("zone", "2"), "a")
	}
	if !x.Del("a") || x.Del("a") {
		t.Error("Del does not remove what was put several times")
	}
	mustHold(t, x)
	mustFind(t, x, pairs("gpu", "1"))
}

func TestDel(t *testing.T) {
	x := labels.New()
	x.Put("a", pairs("gpu", "1", "zone", "2"))
	x.Put("b", pairs("gpu", "1"))
	x.Put("c", nil)
	if x.Del("d") || x.Del("") || x.Del("aa") || x.Del("gpu") || x.Del("1") {
		t.Error("Del of a name that is not there: true")
	}
	mustHold(t, x, "a", "b", "c")
	if !x.Del("a") {
		t.Error("Del: false")
	}
	mustLack(t, x, "a")
	mustHold(t, x, "b", "c")
	mustFind(t, x, pairs("gpu", "1"), "b")
	mustFind(t, x, pairs("zone", "2"))
	x.Put("a", pairs("zone", "2"))
	mustHold(t, x, "a", "b", "c")
	mustFind(t, x, pairs("gpu", "1"), "b")
	mustFind(t, x, pairs("zone", "2"), "a")
	for i, name := range []string{"b", "c", "a"} {
		if !x.Del(name) || x.Len() != 2-i {
			t.Errorf("Del of %q, and %d are left", name, x.Len())
		}
	}
	mustHold(t, x)
}

func TestKeyAndValueMustBothBeEqual(t *testing.T) {
	x := labels.New()
	all := pairs("gpu", "1", "gpu", "2", "gpu", "", "", "gpu", "1", "gpu", "gp", "u1", "gpu1", "", "", "gpu1", "GPU", "1", "gpu", "1\x00", "gpu ", "1", "", "")
	for i, label := range all {
		x.Put(string(rune('a'+i)), []api.Label{label})
	}
	for i, label := range all {
		mustFind(t, x, []api.Label{label}, string(rune('a'+i)))
		for k, other := range all {
			if k != i {
				mustFind(t, x, []api.Label{label, other})
			}
		}
	}
	mustFind(t, x, pairs("gpu", "3"))
	mustFind(t, x, pairs("g", "1"))
	mustFind(t, x, pairs("gpu", "11"))
}

func TestAllWantsMustBeThere(t *testing.T) {
	x := labels.New()
	x.Put("a", pairs("g", "1", "h", "1"))
	x.Put("b", pairs("g", "1", "h", "1", "i", "1"))
	x.Put("c", pairs("h", "1", "i", "1"))
	x.Put("d", pairs("i", "1"))
	x.Put("e", nil)
	mustFind(t, x, pairs("g", "1"), "a", "b")
	mustFind(t, x, pairs("h", "1"), "a", "b", "c")
	mustFind(t, x, pairs("i", "1"), "b", "c", "d")
	mustFind(t, x, pairs("g", "1", "h", "1"), "a", "b")
	mustFind(t, x, pairs("h", "1", "i", "1"), "b", "c")
	mustFind(t, x, pairs("i", "1", "g", "1"), "b")
	mustFind(t, x, pairs("i", "1", "h", "1", "g", "1"), "b")
	for _, wants := range [][]api.Label{pairs("j", "1"), pairs("g", "1", "j", "1"), pairs("j", "1", "g", "1"), pairs("g", "1", "g", "2"), pairs("h", "1", "j", "1", "g", "1")} {
		mustFind(t, x, wants)
	}
	mustHold(t, x, "a", "b", "c", "d", "e")
}

func TestLabelsThatAreRepeatedOrNotValid(t *testing.T) {
	x := labels.New()
	x.Put("a", pairs("k", "2", "k", "1", "k", "2", "k", "2"))
	x.Put("b", pairs("k", "1", "", "", "K", "\xff", "-", strings.Repeat("v", 1000)))
	mustFind(t, x, pairs("k", "1"), "a", "b")
	mustFind(t, x, pairs("k", "2"), "a")
	mustFind(t, x, pairs("k", "1", "k", "2"), "a")
	mustFind(t, x, pairs("k", "2", "k", "2", "k", "2"), "a")
	mustFind(t, x, pairs("k", "1", "k", "1"), "a", "b")
	mustFind(t, x, pairs("", ""), "b")
	mustFind(t, x, pairs("K", "\xff", "", "", "K", "\xff"), "b")
	mustFind(t, x, pairs("-", strings.Repeat("v", 1000)), "b")
	mustFind(t, x, pairs("-", strings.Repeat("v", 999)))
	if !x.Del("a") {
		t.Error("Del: false")
	}
	mustFind(t, x, pairs("k", "2"))
	mustFind(t, x, pairs("k", "1"), "b")
	mustHold(t, x, "b")
}

func TestManyLabels(t *testing.T) {
	var even, all []api.Label
	for i := range 2000 {
		label := api.Label{Key: letters(i), Value: letters(i % 7)}
		all = append(all, label)
		if i%2 == 0 {
			even = append(even, label)
		}
	}
	x := labels.New()
	x.Put("all", all)
	x.Put("even", even)
	x.Put("none", nil)
	mustFind(t, x, all, "all")
	mustFind(t, x, even, "all", "even")
	slices.Reverse(even)
	mustFind(t, x, slices.Concat(even, even), "all", "even")
	mustFind(t, x, append(even, api.Label{Key: "z", Value: "z"}))
	for i, label := range all {
		mustFind(t, x, []api.Label{label}, []string{"all", "even"}[:2-i%2]...)
	}
	x.Put("all", even)
	mustFind(t, x, all)
	mustFind(t, x, even, "all", "even")
	mustHold(t, x, "all", "even", "none")
}

// letters returns names in ascending order: one for each number from 0 to below 26 * 26 * 26.
func letters(i int) string {
	return string([]byte{'a' + byte(i/26/26), 'a' + byte(i/26%26), 'a' + byte(i%26)})
}

func TestNamesOfAnyBytesAreInBytewiseOrder(t *testing.T) {
	want := []string{"", "\x00", "\x00\x00", "\n", " ", "-", "0", "10", "9", "A", "B", "Z", "a", "a\x00", "a-", "aa", "ab", "b", "z", "\x7f", "\x80", "ä", "é", "€", "\xff", "\xff\xff", "\xff" + strings.Repeat("\xff", 1000)}
	for _, step := range []int{1, 2, 4, 5, 25} {
		x := labels.New()
		for i := range want {
			at := i * step % len(want)
			x.Put(want[at], pairs("gpu", "1", "zone", "2")[:min(at, 2)])
		}
		mustHold(t, x, want...)
		mustFind(t, x, pairs("gpu", "1"), want[1:]...)
		mustFind(t, x, pairs("zone", "2", "gpu", "1"), want[2:]...)
		if !x.Del("") || x.Del("") || !x.Del("\xff") {
			t.Error("Del")
		}
		left := slices.DeleteFunc(slices.Clone(want), func(name string) bool { return name == "" || name == "\xff" })
		mustHold(t, x, left...)
		mustFind(t, x, pairs("gpu", "1"), left...)
	}
}

func TestNamesAndLabelsAreNotConfused(t *testing.T) {
	x := labels.New()
	x.Put("gpu", pairs("zone", "1"))
	x.Put("zone", pairs("gpu", "1"))
	x.Put("1", pairs("gpu", "zone"))
	mustFind(t, x, pairs("gpu", "1"), "zone")
	mustFind(t, x, pairs("zone", "1"), "gpu")
	mustFind(t, x, pairs("gpu", "zone"), "1")
	mustFind(t, x, pairs("zone", "gpu"))
	mustHold(t, x, "1", "gpu", "zone")
}
