package bucket

import (
	"math"
	"math/bits"
	"testing"

	"interregnum/api"
)

func TestBucketsWithTooFewResourcesAreSkipped(t *testing.T) {
	for number := range bits.UintSize {
		x := New()
		// A vector in a bucket where it does not belong tells whether that one is examined.
		x.buckets[number] = map[string]api.Res{"a": {math.MaxInt, 0, 0}}
		for first := range bits.UintSize {
			lowest := api.Res{int(uint(1) << first >> 1), 0, 0}
			if examined := len(x.AtLeast(lowest)) == 1; examined != (number >= first) {
				t.Errorf("AtLeast of %v examines bucket %d: %t", lowest, number, examined)
			}
		}
		if len(x.AtLeast(api.Res{-1, 0, 0})) != 1 || len(x.AtLeast(api.Res{math.MinInt, 0, 0})) != 1 {
			t.Errorf("AtLeast of a negative number skips bucket %d", number)
		}
	}
}

func TestNamesAreInTheBucketOfTheirBits(t *testing.T) {
	for n, number := range map[int]int{math.MinInt: 0, -1: 0, 0: 0, 1: 1, 2: 2, 3: 2, 4: 3, 7: 3, 8: 4, api.MaxRes - 1: 20, api.MaxRes: 21, math.MaxInt: bits.UintSize - 1} {
		x := New()
		x.Put("a", api.Res{n, 1, 2})
		for i, bucket := range x.buckets {
			if (len(bucket) == 1) != (i == number) {
				t.Errorf("with %d, bucket %d has %d names", n, i, len(bucket))
			}
		}
	}
}
