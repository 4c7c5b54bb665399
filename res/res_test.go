package res_test

import (
	"math"
	"slices"
	"testing"

	"interregnum/api"
	"interregnum/res"
)

const most = api.MaxRes

// edges are numbers around the bounds of a valid vector, and around those of an int.
func edges() []int {
	return []int{math.MinInt, -1, 0, 1, most - 1, most, most + 1, math.MaxInt}
}

// vectors has each vector whose numbers are of the list.
func vectors(numbers []int) []api.Res {
	var list []api.Res
	for _, x := range numbers {
		for _, y := range numbers {
			for _, z := range numbers {
				list = append(list, api.Res{x, y, z})
			}
		}
	}
	return list
}

// mixed returns count valid vectors without a pattern, with numbers of all sizes, the same ones for the same arguments.
func mixed(count int, seed uint32) []api.Res {
	list := make([]api.Res, count)
	for i := range list {
		for k := range list[i] {
			seed = seed*1664525 + 1013904223
			list[i][k] = (int(seed>>8) % (most + 1)) >> ((seed >> 27) % 24)
		}
	}
	return list
}

func isValid(a api.Res) bool {
	for _, n := range a {
		if n < 0 || n > most {
			return false
		}
	}
	return true
}

// combined is a, and sign times b, as the contract says it: ErrArg, ErrOver, or the result.
func combined(a, b api.Res, sign int) (api.Res, api.Errno) {
	if !isValid(a) || !isValid(b) {
		return api.Res{}, api.ErrArg
	}
	all := api.Res{a[0] + sign*b[0], a[1] + sign*b[1], a[2] + sign*b[2]}
	if !isValid(all) {
		return api.Res{}, api.ErrOver
	}
	return all, api.OK
}

func TestRightOfKnownVectors(t *testing.T) {
	for _, c := range []struct {
		a    api.Res
		want bool
	}{
		{api.Res{}, true},
		{api.Res{1, 2, 3}, true},
		{api.Res{most, most, most}, true},
		{api.Res{0, most, 0}, true},
		{api.Res{most + 1, 0, 0}, false},
		{api.Res{0, most + 1, 0}, false},
		{api.Res{0, 0, most + 1}, false},
		{api.Res{-1, 0, 0}, false},
		{api.Res{0, -1, 0}, false},
		{api.Res{0, 0, -1}, false},
		{api.Res{-1, most + 1, 0}, false},
		{api.Res{math.MaxInt, 0, 0}, false},
		{api.Res{0, 0, math.MinInt}, false},
	} {
		if got := res.Right(c.a); got != c.want {
			t.Errorf("Right(%v) = %t", c.a, got)
		}
	}
}

func TestRightAtAllEdges(t *testing.T) {
	for _, a := range vectors(edges()) {
		if got := res.Right(a); got != isValid(a) {
			t.Errorf("Right(%v) = %t", a, got)
		}
	}
}

type result struct {
	a   api.Res
	err api.Errno
}

func TestAddKnownVectors(t *testing.T) {
	for _, c := range []struct {
		a, b api.Res
		want result
	}{
		{api.Res{1, 2, 3}, api.Res{1, 0, 0}, result{api.Res{2, 2, 3}, api.OK}},
		{api.Res{}, api.Res{}, result{api.Res{}, api.OK}},
		{api.Res{}, api.Res{4, 5, 6}, result{api.Res{4, 5, 6}, api.OK}},
		{api.Res{most - 1, 0, most}, api.Res{1, most, 0}, result{api.Res{most, most, most}, api.OK}},
		{api.Res{most, 0, 0}, api.Res{1, 0, 0}, result{api.Res{}, api.ErrOver}},
		{api.Res{1, 1, 1}, api.Res{1, most, 1}, result{api.Res{}, api.ErrOver}},
		{api.Res{1, 1, 2}, api.Res{1, 1, most - 1}, result{api.Res{}, api.ErrOver}},
		{api.Res{most, most, most}, api.Res{most, most, most}, result{api.Res{}, api.ErrOver}},
		{api.Res{-1, 0, 0}, api.Res{}, result{api.Res{}, api.ErrArg}},
		{api.Res{}, api.Res{0, 0, -1}, result{api.Res{}, api.ErrArg}},
		{api.Res{most + 1, 0, 0}, api.Res{}, result{api.Res{}, api.ErrArg}},
		{api.Res{}, api.Res{0, most + 1, 0}, result{api.Res{}, api.ErrArg}},
		{api.Res{5, 0, 0}, api.Res{-1, 0, 0}, result{api.Res{}, api.ErrArg}},
		{api.Res{most, 0, -1}, api.Res{1, 0, 1}, result{api.Res{}, api.ErrArg}},
		{api.Res{math.MaxInt, 0, 0}, api.Res{math.MaxInt, 0, 0}, result{api.Res{}, api.ErrArg}},
		{api.Res{math.MinInt, 0, 0}, api.Res{math.MinInt, 0, 0}, result{api.Res{}, api.ErrArg}},
	} {
		sum, err := res.Add(c.a, c.b)
		if got := (result{sum, err}); got != c.want {
			t.Errorf("Add(%v, %v) = %v, not %v", c.a, c.b, got, c.want)
		}
	}
}

func TestSubKnownVectors(t *testing.T) {
	for _, c := range []struct {
		a, b api.Res
		want result
	}{
		{api.Res{1, 2, 3}, api.Res{2, 0, 0}, result{api.Res{}, api.ErrOver}},
		{api.Res{1, 2, 3}, api.Res{1, 0, 2}, result{api.Res{0, 2, 1}, api.OK}},
		{api.Res{}, api.Res{}, result{api.Res{}, api.OK}},
		{api.Res{most, most, most}, api.Res{most, most, most}, result{api.Res{}, api.OK}},
		{api.Res{most, 0, 1}, api.Res{}, result{api.Res{most, 0, 1}, api.OK}},
		{api.Res{5, 0, 5}, api.Res{0, 1, 0}, result{api.Res{}, api.ErrOver}},
		{api.Res{5, 5, 5}, api.Res{0, 0, 6}, result{api.Res{}, api.ErrOver}},
		{api.Res{}, api.Res{most, most, most}, result{api.Res{}, api.ErrOver}},
		{api.Res{-1, 0, 0}, api.Res{}, result{api.Res{}, api.ErrArg}},
		{api.Res{}, api.Res{0, -1, 0}, result{api.Res{}, api.ErrArg}},
		{api.Res{most + 1, 0, 0}, api.Res{1, 0, 0}, result{api.Res{}, api.ErrArg}},
		{api.Res{}, api.Res{0, 0, most + 1}, result{api.Res{}, api.ErrArg}},
		{api.Res{0, 0, -1}, api.Res{1, 0, -1}, result{api.Res{}, api.ErrArg}},
		{api.Res{math.MinInt, 0, 0}, api.Res{math.MaxInt, 0, 0}, result{api.Res{}, api.ErrArg}},
		{api.Res{math.MaxInt, 0, 0}, api.Res{math.MinInt, 0, 0}, result{api.Res{}, api.ErrArg}},
	} {
		difference, err := res.Sub(c.a, c.b)
		if got := (result{difference, err}); got != c.want {
			t.Errorf("Sub(%v, %v) = %v, not %v", c.a, c.b, got, c.want)
		}
	}
}

func TestFitsOfKnownVectors(t *testing.T) {
	for _, c := range []struct {
		a, b api.Res
		want bool
	}{
		{api.Res{}, api.Res{}, true},
		{api.Res{1, 2, 3}, api.Res{1, 2, 3}, true},
		{api.Res{1, 2, 3}, api.Res{2, 2, 4}, true},
		{api.Res{2, 0, 0}, api.Res{1, 9, 9}, false},
		{api.Res{0, 1, 0}, api.Res{9, 0, 9}, false},
		{api.Res{0, 0, 1}, api.Res{9, 9, 0}, false},
		{api.Res{-5, -5, -5}, api.Res{-4, -5, 0}, true},
		{api.Res{-4, 0, 0}, api.Res{-5, 0, 0}, false},
		{api.Res{most + 1, 0, 0}, api.Res{most + 2, 0, 0}, true},
		{api.Res{most + 2, 0, 0}, api.Res{most + 1, 0, 0}, false},
		{api.Res{math.MinInt, math.MinInt, math.MinInt}, api.Res{math.MaxInt, math.MaxInt, math.MaxInt}, true},
		{api.Res{math.MaxInt, 0, 0}, api.Res{math.MinInt, 0, 0}, false},
	} {
		if got := res.Fits(c.a, c.b); got != c.want {
			t.Errorf("Fits(%v, %v) = %t", c.a, c.b, got)
		}
	}
}

func TestAllPairsOfEdges(t *testing.T) {
	list := vectors(edges())
	for _, a := range list {
		for _, b := range list {
			sum, sumErr := res.Add(a, b)
			if want, err := combined(a, b, 1); sum != want || sumErr != err {
				t.Fatalf("Add(%v, %v) = %v, %d, not %v, %d", a, b, sum, sumErr, want, err)
			}
			difference, subErr := res.Sub(a, b)
			if want, err := combined(a, b, -1); difference != want || subErr != err {
				t.Fatalf("Sub(%v, %v) = %v, %d, not %v, %d", a, b, difference, subErr, want, err)
			}
			if got, want := res.Fits(a, b), a[0] <= b[0] && a[1] <= b[1] && a[2] <= b[2]; got != want {
				t.Fatalf("Fits(%v, %v) = %t", a, b, got)
			}
		}
	}
}

func TestSumOfKnownVectors(t *testing.T) {
	for _, c := range []struct {
		l    []api.Res
		want result
	}{
		{nil, result{api.Res{}, api.OK}},
		{[]api.Res{}, result{api.Res{}, api.OK}},
		{[]api.Res{{1, 0, 0}, {2, 1, 0}, {0, 0, 4}}, result{api.Res{3, 1, 4}, api.OK}},
		{[]api.Res{{7, 8, 9}}, result{api.Res{7, 8, 9}, api.OK}},
		{[]api.Res{{most, most, most}}, result{api.Res{most, most, most}, api.OK}},
		{[]api.Res{{most - 1, 0, 0}, {0, most, 0}, {1, 0, 0}}, result{api.Res{most, most, 0}, api.OK}},
		{[]api.Res{{most, 0, 0}, {}, {}}, result{api.Res{most, 0, 0}, api.OK}},
		{[]api.Res{{most, 0, 0}, {0, 0, 0}, {1, 0, 0}}, result{api.Res{}, api.ErrOver}},
		{[]api.Res{{0, 0, most}, {0, 0, 1}, {1, 0, 0}}, result{api.Res{}, api.ErrOver}},
		{[]api.Res{{-1, 0, 0}}, result{api.Res{}, api.ErrArg}},
		{[]api.Res{{0, 0, most + 1}}, result{api.Res{}, api.ErrArg}},
		{[]api.Res{{5, 0, 0}, {-1, 0, 0}}, result{api.Res{}, api.ErrArg}},
		{[]api.Res{{1, 0, 0}, {1, 0, 0}, {0, math.MaxInt, 0}}, result{api.Res{}, api.ErrArg}},
		{[]api.Res{{most, 0, 0}, {1, 0, 0}, {-1, 0, 0}}, result{api.Res{}, api.ErrOver}},
		{[]api.Res{{most, 0, 0}, {-1, 0, 0}, {1, 0, 0}}, result{api.Res{}, api.ErrArg}},
		{[]api.Res{{most, 0, 0}, {1, -1, 0}, {1, 0, 0}}, result{api.Res{}, api.ErrArg}},
	} {
		sum, err := res.Sum(c.l)
		if got := (result{sum, err}); got != c.want {
			t.Errorf("Sum(%v) = %v, not %v", c.l, got, c.want)
		}
	}
}

func TestSumOfMany(t *testing.T) {
	ones := make([]api.Res, most)
	for i := range ones {
		ones[i] = api.Res{0, 1, 0}
	}
	if sum, err := res.Sum(ones); sum != (api.Res{0, most, 0}) || err != api.OK {
		t.Errorf("Sum of %d ones: %v, %d", len(ones), sum, err)
	}
	if sum, err := res.Sum(append(ones, api.Res{0, 1, 0})); sum != (api.Res{}) || err != api.ErrOver {
		t.Errorf("Sum of one more: %v, %d", sum, err)
	}
}

func TestShareOfKnownVectors(t *testing.T) {
	for _, c := range []struct {
		a, whole api.Res
		want     int
	}{
		{api.Res{1, 0, 2}, api.Res{2, 0, 4}, 1000},
		{api.Res{1, 5, 1}, api.Res{3, 0, 0}, 333},
		{api.Res{}, api.Res{}, 0},
		{api.Res{9, 9, 9}, api.Res{}, 0},
		{api.Res{}, api.Res{9, 9, 9}, 0},
		{api.Res{3, 3, 3}, api.Res{3, 3, 3}, 3000},
		{api.Res{2, 2, 2}, api.Res{3, 3, 3}, 1998},
		{api.Res{1, 1, 1}, api.Res{1001, 1001, 1001}, 0},
		{api.Res{1, 1, 1}, api.Res{1000, 1000, 1000}, 3},
		{api.Res{999, 0, 0}, api.Res{1000, 1, 1}, 999},
		{api.Res{7, 0, 0}, api.Res{2, 0, 0}, 3500},
		{api.Res{most, most, most}, api.Res{most, most, most}, 3000},
		{api.Res{most, most, most}, api.Res{1, 1, 1}, 3 * 1000 * most},
		{api.Res{most - 1, 0, 0}, api.Res{most, 0, 0}, 999},
		{api.Res{1, 0, 0}, api.Res{most, 0, 0}, 0},
		{api.Res{-1, 0, 0}, api.Res{1, 1, 1}, 0},
		{api.Res{5, 5, -1}, api.Res{1, 1, 0}, 0},
		{api.Res{most + 1, 0, 0}, api.Res{1, 1, 1}, 0},
		{api.Res{1, 1, 1}, api.Res{1, 1, -1}, 0},
		{api.Res{1, 1, 1}, api.Res{1, most + 1, 1}, 0},
		{api.Res{math.MaxInt, 1, 1}, api.Res{1, 1, 1}, 0},
		{api.Res{1, 1, 1}, api.Res{1, 1, math.MinInt}, 0},
	} {
		if got := res.Share(c.a, c.whole); got != c.want {
			t.Errorf("Share(%v, %v) = %d, not %d", c.a, c.whole, got, c.want)
		}
	}
}

// quotient returns the greatest number that, times whole, is at most 1000 times a, found by halving.
func quotient(a, whole int) int {
	low, high := 0, 1000*most
	for low < high {
		middle := (low + high + 1) / 2
		if middle*whole <= 1000*a {
			low = middle
		} else {
			high = middle - 1
		}
	}
	return low
}

func mustShare(t *testing.T, a, whole api.Res) {
	t.Helper()
	want := 0
	for i := range whole {
		if isValid(a) && isValid(whole) && whole[i] > 0 {
			want += quotient(a[i], whole[i])
		}
	}
	if got := res.Share(a, whole); got != want {
		t.Fatalf("Share(%v, %v) = %d, not %d", a, whole, got, want)
	}
}

func TestShareAtAllEdges(t *testing.T) {
	list := vectors(edges())
	for _, a := range list {
		for _, whole := range list {
			mustShare(t, a, whole)
		}
	}
}

func TestShareOfManyVectors(t *testing.T) {
	list := mixed(300, 5)
	for _, a := range list {
		for _, whole := range list {
			mustShare(t, a, whole)
		}
	}
}

// orders returns every order of four vectors.
func orders(l [4]api.Res) [][]api.Res {
	var list [][]api.Res
	for i := range 4 {
		for j := range 4 {
			for k := range 4 {
				if last := 6 - i - j - k; i != j && i != k && j != k {
					list = append(list, []api.Res{l[i], l[j], l[k], l[last]})
				}
			}
		}
	}
	return list
}

func TestSumsDoNotDependOnTheOrder(t *testing.T) {
	all := mixed(400, 11)
	summed := 0
	for at := 0; at < len(all); at += 4 {
		four := [4]api.Res(all[at:])
		want, err := res.Sum(four[:])
		if err == api.OK {
			summed++
		}
		for _, l := range orders(four) {
			if sum, again := res.Sum(l); sum != want || again != err {
				t.Errorf("Sum(%v) = %v, %d, not %v, %d", l, sum, again, want, err)
			}
		}
	}
	if summed < 10 || summed == len(all)/4 {
		t.Errorf("%d of %d sums are without an error", summed, len(all)/4)
	}
}

func TestAddingDoesNotDependOnTheOrder(t *testing.T) {
	list := vectors(edges())
	for _, a := range list {
		for _, b := range list {
			one, oneErr := res.Add(a, b)
			if other, err := res.Add(b, a); other != one || err != oneErr {
				t.Fatalf("%v and %v: %v, %d, and %v, %d", a, b, one, oneErr, other, err)
			}
		}
	}
}

// validVectors are edges and others.
func validVectors() []api.Res {
	return append(vectors([]int{0, 1, most / 2, most - 1, most}), mixed(200, 3)...)
}

func TestSubtractingWhatWasAddedRestores(t *testing.T) {
	restored := 0
	for _, a := range validVectors() {
		for _, b := range validVectors() {
			sum, err := res.Add(a, b)
			if err != api.OK {
				continue
			}
			restored++
			if back, err := res.Sub(sum, b); back != a || err != api.OK {
				t.Fatalf("%v and %v, without the latter: %v, %d", a, b, back, err)
			}
		}
	}
	if restored < 1000 {
		t.Errorf("%d sums only", restored)
	}
}

func TestAVectorFitsIfItCanBeSubtracted(t *testing.T) {
	fitting, others := 0, 0
	for _, a := range validVectors() {
		for _, b := range validVectors() {
			_, err := res.Sub(b, a)
			if res.Fits(a, b) != (err == api.OK) {
				t.Fatalf("Fits(%v, %v) = %t, and Sub answers %d", a, b, res.Fits(a, b), err)
			}
			if err == api.OK {
				fitting++
			} else {
				others++
			}
		}
	}
	if fitting < 1000 || others < 1000 {
		t.Errorf("%d fit, %d don't", fitting, others)
	}
}

func TestArgumentsStayAsTheyAre(t *testing.T) {
	whole := []api.Res{{1, 2, 3}, {4, 5, 6}, {-7, most + 1, 0}, {8, 8, 8}}
	want := slices.Clone(whole)
	for size := range whole {
		res.Sum(whole[:size])
	}
	a, b := whole[0], whole[1]
	res.Right(whole[2])
	res.Add(a, b)
	res.Sub(b, a)
	res.Fits(a, b)
	res.Share(a, b)
	if !slices.Equal(whole, want) || a != want[0] || b != want[1] {
		t.Errorf("the arguments became %v, %v and %v", whole, a, b)
	}
}

func TestMemoryBeyondTheLengthIsNotRead(t *testing.T) {
	whole := []api.Res{{1, 2, 3}, {most, 0, 0}, {-1, 0, 0}}
	if sum, err := res.Sum(whole[:1]); sum != (api.Res{1, 2, 3}) || err != api.OK {
		t.Errorf("Sum of the first one: %v, %d", sum, err)
	}
	if sum, err := res.Sum(whole[:0]); sum != (api.Res{}) || err != api.OK {
		t.Errorf("Sum of none: %v, %d", sum, err)
	}
}

func TestCallsDoNotDependOnEarlierOnes(t *testing.T) {
	l := []api.Res{{1, 0, 0}, {2, 1, 0}, {0, 0, 4}}
	for range 3 {
		if sum, err := res.Sum(l); sum != (api.Res{3, 1, 4}) || err != api.OK {
			t.Errorf("Sum: %v, %d", sum, err)
		}
		if sum, err := res.Add(l[0], l[1]); sum != (api.Res{3, 1, 0}) || err != api.OK {
			t.Errorf("Add: %v, %d", sum, err)
		}
		res.Sum([]api.Res{{most, most, most}, {1, 1, 1}})
		res.Sub(api.Res{}, api.Res{1, 1, 1})
		res.Add(api.Res{-1, -1, -1}, api.Res{})
	}
}
