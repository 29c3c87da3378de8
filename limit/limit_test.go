package limit_test

import (
	"math"
	"testing"

	"hagioscope/limit"
)

func TestWithin(t *testing.T) {
	for _, row := range [][4]int{
		{math.MinInt, 0, 128, 0}, {-1, 0, 128, 0}, {0, 0, 128, 0}, {1, 0, 128, 1}, {127, 0, 128, 127}, {128, 0, 128, 128}, {129, 0, 128, 128}, {math.MaxInt, 0, 128, 128},
		{0, 1, 5, 1}, {1, 1, 5, 1}, {5, 1, 5, 5}, {6, 1, 5, 5},
		{-7, -5, -2, -5}, {-3, -5, -2, -3}, {0, -5, -2, -2},
		{9, 3, 3, 3}, {3, 3, 3, 3}, {2, 3, 3, 3},
		{math.MinInt, math.MinInt, math.MaxInt, math.MinInt}, {math.MaxInt, math.MinInt, math.MaxInt, math.MaxInt},
	} {
		if got := limit.Within(row[0], row[1], row[2]); got != row[3] {
			t.Errorf("Within(%d, %d, %d): %d, not %d", row[0], row[1], row[2], got, row[3])
		}
	}
}
