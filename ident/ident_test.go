package ident_test

import (
	"maps"
	"slices"
	"strconv"
	"strings"
	"testing"

	"interregnum/api"
	"interregnum/ident"
)

const letters = "abcdefghijklmnopqrstuvwxyz0123456789-"

// isName is a name as the contract says it.
func isName(s string) bool {
	return len(s) >= 1 && len(s) <= api.MaxName && s[0] != '-' && strings.Trim(s, letters) == ""
}

// labels makes labels of keys and values in turn.
func labels(words ...string) []api.Label {
	var l []api.Label
	for i := 0; i+1 < len(words); i += 2 {
		l = append(l, api.Label{Key: words[i], Value: words[i+1]})
	}
	return l
}

// lists returns each list of up to size labels, of these keys and values.
func lists(size int, keys, values []string) [][]api.Label {
	all := [][]api.Label{nil}
	longest := all
	for range size {
		var longer [][]api.Label
		for _, l := range longest {
			for _, key := range keys {
				for _, value := range values {
					longer = append(longer, append(slices.Clone(l), api.Label{Key: key, Value: value}))
				}
			}
		}
		all, longest = append(all, longer...), longer
	}
	return all
}

func TestNameOfKnownTexts(t *testing.T) {
	for _, s := range []string{
		"gpu-1", "a", "z", "0", "9", "a-", "0-", "a--", "0--9", "abcdefghijklmnop", "0123456789abcdef", "a---------------", "zone-b", "1e9",
	} {
		if !ident.Name(s) {
			t.Errorf("%q is not a name", s)
		}
	}
	for _, s := range []string{
		"-a", "", "A", "-", "--", "-0", "---------------a", "gpu_1", "gpu 1", " gpu", "gpu ", "a.b", "a/b", "aB", "Ab", "gpu\n", "\x00", "a\x00", "\x00a",
		"a`", "a{", "a/", "a:", "a,", "a.", "\u00fc", "a\u00fc", "\uff41", "\u0663", "a\xff", "\xff", "\xc3", "a\u2010b", "\u0131",
		"abcdefghijklmnopq", "0123456789abcdefg", "abcdefghijklmnop-", "abcdefghijklmnopA", "abcdefghijklmno\u00fc",
	} {
		if ident.Name(s) {
			t.Errorf("%q is a name", s)
		}
	}
}

func TestNameOfEachByteAtEachPlace(t *testing.T) {
	for size := 1; size <= api.MaxName; size++ {
		for place := range size {
			for x := range 256 {
				b := []byte(strings.Repeat("k", size))
				b[place] = byte(x)
				want := 'a' <= x && x <= 'z' || '0' <= x && x <= '9' || x == '-' && place > 0
				if got := ident.Name(string(b)); got != want {
					t.Errorf("Name(%q) = %t", b, got)
				}
			}
		}
	}
}

func TestNameOfEachLength(t *testing.T) {
	for size := range 300 {
		if got := ident.Name(strings.Repeat("a", size)); got != (size >= 1 && size <= 16) {
			t.Errorf("Name of %d letters: %t", size, got)
		}
	}
	if ident.Name(strings.Repeat("a", 1<<20)) {
		t.Error("Name of 2^20 letters")
	}
	// Bytes are counted, not characters.
	if ident.Name(strings.Repeat("\u00fc", 8)) || ident.Name(strings.Repeat("\u00fc", 16)) {
		t.Error("Name of letters with a diaeresis")
	}
}

func TestLabelsOfKnownLists(t *testing.T) {
	for _, l := range [][]api.Label{
		nil, {},
		labels("a", "1"),
		labels("a", "a", "b", "a"),
		labels("a", "2", "b", "1", "c", "0"),
		labels("a", "1", "b", "1", "c", "1", "d", "1"),
		labels("9", "x", "a", "x"),
		labels("a", "x", "a-", "x", "a0", "x", "aa", "x"),
		labels("a9", "x", "aa", "x"),
		labels("a", "x", "aaaaaaaaaaaaaaaa", "bbbbbbbbbbbbbbbb"),
		labels("10", "x", "9", "x"),
	} {
		if !ident.Labels(l) {
			t.Errorf("%q is not valid", l)
		}
	}
	for _, l := range [][]api.Label{
		labels("a", "1", "b", "1", "c", "1", "d", "1", "e", "1"),
		labels("a", "1", "b", "1", "c", "1", "d", "1", "d", "1"),
		labels("b", "1", "a", "1"),
		labels("a", "1", "c", "1", "b", "1"),
		labels("b", "1", "a", "1", "c", "1"),
		labels("a", "1", "a", "1"),
		labels("a", "1", "a", "2"),
		labels("a", "1", "b", "1", "b", "1"),
		labels("a-", "x", "a", "x"),
		labels("a0", "x", "a-", "x"),
		labels("aa", "x", "a0", "x"),
		labels("a", "x", "9", "x"),
		labels("9", "x", "10", "x"),
		labels("", "1"),
		labels("a", ""),
		labels("", ""),
		labels("", "1", "a", "1"),
		labels("A", "1"),
		labels("a", "A"),
		labels("-a", "1"),
		labels("a", "-1"),
		labels("A", "1", "a", "1"),
		labels("a", "1", "b", "x y"),
		labels("a", "1", "b", "1", "c", "1", "d", ""),
		labels("a", "1", "b", "1", "c", "1", "d\x00", "1"),
		labels("a", "1", "abcdefghijklmnopq", "1"),
		labels("a", "1", "b", "abcdefghijklmnopq"),
		labels("a", "1", "\u00fc", "1"),
	} {
		if ident.Labels(l) {
			t.Errorf("%q is valid", l)
		}
	}
}

// areValid is valid labels as the contract says it, each pair of keys compared.
func areValid(l []api.Label) bool {
	for i, a := range l {
		if !isName(a.Key) || !isName(a.Value) {
			return false
		}
		for _, b := range l[i+1:] {
			if a.Key >= b.Key {
				return false
			}
		}
	}
	return len(l) <= api.MaxLabels
}

func TestLabelsOfAllShortLists(t *testing.T) {
	valid := 0
	for _, l := range lists(5, []string{"a", "b", "c", "d", "e"}, []string{"1"}) {
		if ident.Labels(l) != areValid(l) {
			t.Fatalf("Labels(%q) = %t", l, ident.Labels(l))
		}
		if areValid(l) {
			valid++
		}
	}
	if want := 1 + 5 + 10 + 10 + 5; valid != want {
		t.Errorf("%d lists are valid, not %d", valid, want)
	}
	for _, l := range lists(3, []string{"a", "a-", "A", "", "-"}, []string{"1", "", "abcdefghijklmnopq"}) {
		if ident.Labels(l) != areValid(l) {
			t.Fatalf("Labels(%q) = %t", l, ident.Labels(l))
		}
	}
}

func TestHasOfKnownLists(t *testing.T) {
	four := labels("a", "1", "b", "2", "c", "3", "d", "4")
	for _, c := range []struct {
		l, wants []api.Label
		want     bool
	}{
		{nil, nil, true},
		{nil, []api.Label{}, true},
		{[]api.Label{}, nil, true},
		{four, nil, true},
		{nil, four, false},
		{nil, []api.Label{{}}, false},
		{four, four, true},
		{four, four[:1], true},
		{four, four[3:], true},
		{four[:3], four, false},
		{four[1:], four, false},
		{four, labels("d", "4", "a", "1"), true},
		{four, labels("b", "2", "b", "2", "b", "2", "b", "2", "b", "2"), true},
		{four, labels("a", "2"), false},
		{four, labels("b", "1"), false},
		{four, labels("1", "a"), false},
		{four, labels("a", "1", "e", "5"), false},
		{four, labels("e", "5", "a", "1"), false},
		{four, labels("a", "1", "b", "3"), false},
		{four, labels("a", ""), false},
		{four, labels("", "1"), false},
		{four, []api.Label{{}}, false},
		{labels("a", "1", "a", "2"), labels("a", "2"), true},
		{labels("a", "1", "a", "2"), labels("a", "2", "a", "1"), true},
		{labels("a", "1", "a", "2"), labels("a", "3"), false},
		{labels("b", "1", "a", "1"), labels("a", "1", "b", "1"), true},
		{labels("", ""), labels("", ""), true},
		{labels("ab", "c"), labels("a", "bc"), false},
		{labels("A", "\xff"), labels("A", "\xff"), true},
		{labels("A", "\xff"), labels("A", "\xfe"), false},
		{labels("A", "\xff"), labels("a", "\xff"), false},
		{labels("a", "10"), labels("a", "1"), false},
		{labels("a", "1"), labels("a", "10"), false},
	} {
		if got := ident.Has(c.l, c.wants); got != c.want {
			t.Errorf("Has(%q, %q) = %t", c.l, c.wants, got)
		}
	}
}

type value struct {
	text  string
	found bool
}

func TestValueOfKnownLists(t *testing.T) {
	for _, c := range []struct {
		l    []api.Label
		key  string
		want value
	}{
		{labels("a", "2", "b", "3"), "b", value{"3", true}},
		{labels("a", "2", "b", "3"), "a", value{"2", true}},
		{labels("a", "2", "b", "3"), "c", value{}},
		{labels("a", "2", "b", "3"), "", value{}},
		{labels("a", "2", "b", "3"), "2", value{}},
		{labels("a", "2", "b", "3"), "A", value{}},
		{nil, "a", value{}},
		{nil, "", value{}},
		{[]api.Label{}, "a", value{}},
		{labels("a", "1", "a", "2", "a", "3"), "a", value{"1", true}},
		{labels("b", "9", "a", "1", "b", "8", "a", "2"), "a", value{"1", true}},
		{labels("b", "9", "a", "1", "b", "8", "a", "2"), "b", value{"9", true}},
		{labels("a", ""), "a", value{"", true}},
		{labels("a", "", "a", "1"), "a", value{"", true}},
		{labels("", "1"), "", value{"1", true}},
		{labels("", ""), "", value{"", true}},
		{labels("ab", "1"), "a", value{}},
		{labels("a", "1"), "ab", value{}},
		{labels("A", "\xff"), "A", value{"\xff", true}},
	} {
		if text, found := ident.Value(c.l, c.key); text != c.want.text || found != c.want.found {
			t.Errorf("Value(%q, %q) = %q, %t, not %q, %t", c.l, c.key, text, found, c.want.text, c.want.found)
		}
	}
}

func TestSortedOfKnownLists(t *testing.T) {
	for _, c := range []struct{ l, want []api.Label }{
		{labels("b", "1", "a", "2", "b", "3"), labels("a", "2", "b", "3")},
		{nil, nil},
		{[]api.Label{}, nil},
		{labels("a", "1"), labels("a", "1")},
		{labels("a", "1", "b", "1"), labels("a", "1", "b", "1")},
		{labels("b", "1", "a", "1"), labels("a", "1", "b", "1")},
		{labels("a", "1", "a", "2"), labels("a", "2")},
		{labels("a", "2", "a", "1"), labels("a", "1")},
		{labels("a", "3", "a", "1", "a", "2"), labels("a", "2")},
		{labels("a", "1", "a", ""), labels("a", "")},
		{labels("a", "1", "", "2", "A", "3", "", "4"), labels("", "4", "A", "3", "a", "1")},
		{labels("9", "a", "10", "b", "1", "c"), labels("1", "c", "10", "b", "9", "a")},
		{labels("aa", "1", "a0", "2", "a-", "3", "a", "4"), labels("a", "4", "a-", "3", "a0", "2", "aa", "1")},
		{labels("\xff", "1", "\u00fc", "2", "z", "3", "\x00", "4"), labels("\x00", "4", "z", "3", "\u00fc", "2", "\xff", "1")},
		{labels("e", "1", "d", "2", "c", "3", "b", "4", "a", "5", "e", "6"), labels("a", "5", "b", "4", "c", "3", "d", "2", "e", "6")},
		{[]api.Label{{}, {}}, []api.Label{{}}},
	} {
		if got := ident.Sorted(c.l); !slices.Equal(got, c.want) {
			t.Errorf("Sorted(%q) = %q, not %q", c.l, got, c.want)
		}
	}
}

// lastOfEachKey is sorted labels as the contract says it: a later label of a key takes the place of an earlier one.
func lastOfEachKey(l []api.Label) []api.Label {
	last := map[string]api.Label{}
	for _, label := range l {
		last[label.Key] = label
	}
	var sorted []api.Label
	for _, key := range slices.Sorted(maps.Keys(last)) {
		sorted = append(sorted, last[key])
	}
	return sorted
}

func TestSortedOfAllShortLists(t *testing.T) {
	for _, l := range lists(5, []string{"a", "b", "c"}, []string{"1", "2"}) {
		if got, want := ident.Sorted(l), lastOfEachKey(l); !slices.Equal(got, want) {
			t.Fatalf("Sorted(%q) = %q, not %q", l, got, want)
		}
	}
}

// manyLabels has count labels without a pattern, with the keys 0 to keys-1, the same ones for the same arguments; each value stands there once.
func manyLabels(count, keys int, seed uint32) []api.Label {
	l := make([]api.Label, count)
	for i := range l {
		seed = seed*1664525 + 1013904223
		l[i] = api.Label{Key: strconv.Itoa(int(seed>>8) % keys), Value: strconv.Itoa(i)}
	}
	return l
}

func TestSortedOfManyLabels(t *testing.T) {
	for _, size := range []int{12, 13, 20, 21, 50, 1000, 65537} {
		for _, keys := range []int{1, 2, 7, size} {
			l := manyLabels(size, keys, uint32(size+keys))
			if !slices.Equal(ident.Sorted(l), lastOfEachKey(l)) {
				t.Errorf("Sorted of %d labels with %d keys is wrong", size, keys)
			}
		}
	}
}

// propertyLists are short lists with names, and with other words, and long ones.
func propertyLists() [][]api.Label {
	all := lists(4, []string{"a", "b", "a-"}, []string{"1", "2"})
	all = append(all, lists(3, []string{"a", "", "A"}, []string{"1", "x y"})...)
	for size := range 40 {
		all = append(all, manyLabels(size, 5, uint32(size)), manyLabels(size, 4, uint32(size)))
	}
	return all
}

func TestSortingSortedLabelsChangesNothing(t *testing.T) {
	for _, l := range propertyLists() {
		once := ident.Sorted(l)
		if twice := ident.Sorted(once); !slices.Equal(once, twice) {
			t.Errorf("%q, sorted: %q, and again: %q", l, once, twice)
		}
	}
}

func TestSortedLabelsAreValid(t *testing.T) {
	valid, tooMany, unnamed := 0, 0, 0
	for _, l := range propertyLists() {
		sorted, named := ident.Sorted(l), true
		for _, label := range sorted {
			named = named && isName(label.Key) && isName(label.Value)
		}
		switch {
		case len(sorted) > api.MaxLabels:
			tooMany++
		case !named:
			unnamed++
		default:
			valid++
		}
		if want := named && len(sorted) <= api.MaxLabels; ident.Labels(sorted) != want {
			t.Errorf("Labels(%q) = %t", sorted, !want)
		}
	}
	if valid < 100 || tooMany < 10 || unnamed < 100 {
		t.Errorf("%d are valid, %d have too many keys, %d other words than names", valid, tooMany, unnamed)
	}
}

func TestValidLabelsStayAsTheyAreWhenSorted(t *testing.T) {
	for _, l := range propertyLists() {
		if sorted := ident.Sorted(l); ident.Labels(l) && !slices.Equal(sorted, l) {
			t.Errorf("Sorted(%q) = %q", l, sorted)
		}
	}
}

// valuesAreThere reports whether l has the value of each of wants for its key.
func valuesAreThere(l, wants []api.Label) bool {
	for _, want := range wants {
		if text, found := ident.Value(l, want.Key); !found || text != want.Value {
			return false
		}
	}
	return true
}

func TestHavingLabelsIsHavingTheirValues(t *testing.T) {
	wanted := lists(3, []string{"a", "b", "c"}, []string{"1", "2"})
	wanted = append(wanted, labels("", ""), labels("a", ""), labels("", "1"))
	had, others := 0, 0
	for _, l := range lists(3, []string{"a", "b", "c"}, []string{"1", "2"}) {
		if !ident.Labels(l) {
			continue
		}
		for _, wants := range wanted {
			got := ident.Has(l, wants)
			if got != valuesAreThere(l, wants) {
				t.Fatalf("Has(%q, %q) = %t", l, wants, got)
			}
			if got {
				had++
			} else {
				others++
			}
		}
	}
	if had < 100 || others < 100 {
		t.Errorf("%d are had, %d are not", had, others)
	}
}

func callAll(l, wants []api.Label) {
	ident.Labels(l)
	ident.Has(l, wants)
	ident.Has(wants, l)
	ident.Value(l, "b")
	ident.Sorted(l)
}

func TestArgumentsStayAsTheyAre(t *testing.T) {
	whole := labels("c", "1", "b", "2", "c", "3", "a", "4", "b", "5", "", "", "A", "x")
	want := slices.Clone(whole)
	for start := range whole {
		for end := start; end <= len(whole); end++ {
			callAll(whole[start:end], whole[:start])
		}
	}
	if !slices.Equal(whole, want) {
		t.Errorf("the arguments became %q", whole)
	}
}

func TestMemoryBeyondTheLengthIsNotRead(t *testing.T) {
	whole := labels("b", "1", "c", "2", "b", "3", "a", "4", "e", "5")
	l := whole[:2]
	if !ident.Labels(l) || ident.Has(l, whole[2:3]) || !ident.Has(whole[:1], whole[:1]) {
		t.Error("Labels or Has read more than the first ones")
	}
	if text, found := ident.Value(l, "a"); text != "" || found {
		t.Errorf("Value: %q, %t", text, found)
	}
	if got := ident.Sorted(l); !slices.Equal(got, labels("b", "1", "c", "2")) {
		t.Errorf("Sorted: %q", got)
	}
	if got := ident.Sorted(whole[:0]); len(got) != 0 || !ident.Labels(whole[:0]) || !ident.Has(nil, whole[:0]) {
		t.Errorf("none of them: %q", got)
	}
}

func TestSortedLabelsAreInNewMemory(t *testing.T) {
	for _, l := range [][]api.Label{labels("a", "1"), labels("a", "1", "b", "2"), labels("b", "1", "a", "2", "b", "3")} {
		kept, want := slices.Clone(l), lastOfEachKey(l)
		one, other := ident.Sorted(l), ident.Sorted(l)
		for i := range one {
			one[i] = api.Label{Key: "x", Value: "y"}
		}
		_ = append(one, one...)
		if !slices.Equal(l, kept) || !slices.Equal(other, want) {
			t.Errorf("writing to a result changed %q to %q, or %q to %q", kept, l, want, other)
		}
		for i := range l {
			l[i] = api.Label{Key: "z", Value: "z"}
		}
		if !slices.Equal(other, want) {
			t.Errorf("writing to an argument changed the result to %q", other)
		}
	}
	empty := make([]api.Label, 0, 2)
	_ = append(ident.Sorted(empty), labels("a", "1", "b", "2")...)
	if l := empty[:2]; l[0] != (api.Label{}) || l[1] != (api.Label{}) {
		t.Errorf("the memory beyond an empty argument became %q", l)
	}
}

func TestCallsDoNotDependOnEarlierOnes(t *testing.T) {
	l := labels("b", "1", "a", "2", "b", "3")
	for range 3 {
		if !ident.Name("gpu-1") || ident.Name("-a") {
			t.Error("Name")
		}
		if ident.Labels(l) || !ident.Labels(labels("a", "2", "b", "3")) {
			t.Error("Labels")
		}
		if !ident.Has(l, l) || ident.Has(l, labels("a", "1")) {
			t.Error("Has")
		}
		if text, found := ident.Value(l, "b"); text != "1" || !found {
			t.Errorf("Value: %q, %t", text, found)
		}
		if got := ident.Sorted(l); !slices.Equal(got, labels("a", "2", "b", "3")) {
			t.Errorf("Sorted: %q", got)
		}
		callAll(manyLabels(50, 5, 1), manyLabels(50, 7, 2))
	}
}
