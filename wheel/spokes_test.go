package wheel

import (
	"math"
	"testing"
)

func TestNamesAreOnTheSpokeOfTheirTime(t *testing.T) {
	if spokes != 16 {
		t.Errorf("%d spokes", spokes)
	}
	for at, number := range map[int]int{0: 0, 1: 1, 15: 15, 16: 0, 17: 1, 35: 3, -1: 15, -15: 1, -16: 0, -17: 15, math.MaxInt: 15, math.MaxInt - 15: 0, math.MinInt: 0, math.MinInt + 1: 1} {
		w := New()
		w.Set("a", 7)
		w.Set("a", at)
		for i, spoke := range w.spokes {
			if (len(spoke) == 1) != (i == number) {
				t.Errorf("with %d, spoke %d has %d names", at, i, len(spoke))
			}
		}
	}
}

func TestNothingIsKeptOfWhatIsNoLongerThere(t *testing.T) {
	w := New()
	for at := range 100 {
		w.Set("a", at)
		w.Set("b", -at)
		w.Set("c", at)
		w.Del("b")
	}
	w.Due(100)
	for i, spoke := range w.spokes {
		if len(spoke) != 0 {
			t.Errorf("spoke %d: %v", i, spoke)
		}
	}
}
