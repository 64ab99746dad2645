package fit_test

import (
	"math"
	"testing"

	"treadwheel/api"
	"treadwheel/fit"
)

func TestWords(t *testing.T) {
	for size, want := range []int{4, 8, 16, 32, 64} {
		if got := fit.Words(size); got != want {
			t.Errorf("P3.1: Words(%d): %d, not %d", size, got, want)
		}
	}
	for _, size := range []int{-1, 5, 6, 31, 32, 62, 63, 64, 1 << 32, math.MaxInt, math.MinInt} {
		if got := fit.Words(size); got != 0 {
			t.Errorf("P3.1: Words(%d), no size: %d", size, got)
		}
	}
}

// The greatest numbers of fields are written out, size by size, so that nothing of the package is held against itself.
func TestOfAndWaste(t *testing.T) {
	size := 0
	words := []int{4, 8, 16, 32, 64}
	for fields := 0; fields <= 62; fields++ {
		if fields == 3 || fields == 7 || fields == 15 || fields == 31 {
			size++
		}
		if got := fit.Of(fields); got != size {
			t.Errorf("P3.1: Of(%d): %d, not %d", fields, got, size)
		}
		if got, want := fit.Waste(fields), words[size]-2-fields; got != want {
			t.Errorf("P3.1: Waste(%d): %d, not %d", fields, got, want)
		}
	}
	for _, fields := range []int{-1, -2, -3, 63, 64, 65, 1 << 32, math.MaxInt, math.MaxInt - 1, math.MinInt} {
		if of, waste := fit.Of(fields), fit.Waste(fields); of != -1 || waste != 0 {
			t.Errorf("P3.1: Of and Waste(%d), of none: %d, %d", fields, of, waste)
		}
	}
}

func TestRightAndTotal(t *testing.T) {
	for i, c := range []struct {
		cells [api.Sizes]int
		pace  int
		right api.Errno
		total int
	}{
		{[5]int{1, 0, 0, 0, 0}, 1, api.OK, 4},
		{[5]int{0, 1, 0, 0, 0}, 16, api.OK, 8},
		{[5]int{0, 0, 1, 0, 0}, 2, api.OK, 16},
		{[5]int{0, 0, 0, 1, 0}, 3, api.OK, 32},
		{[5]int{0, 0, 0, 0, 1}, 4, api.OK, 64},
		{[5]int{1, 2, 3, 4, 5}, 5, api.OK, 4 + 16 + 48 + 128 + 320},
		{[5]int{512, 0, 0, 0, 508}, 1, api.OK, 2048 + 32512},
		{[5]int{512, 508, 0, 0, 0}, 1, api.OK, 2048 + 4064},
		{[5]int{0, 0, 0, 0, 512}, 16, api.OK, 32768},

		{[5]int{}, 1, api.ErrSize, 0},
		{[5]int{512, 509, 0, 0, 0}, 1, api.ErrSize, 0},
		{[5]int{204, 204, 204, 204, 205}, 1, api.ErrSize, 0},
		{[5]int{512, 512, 512, 512, 512}, 1, api.ErrSize, 0},
		{[5]int{-1, 2, 0, 0, 0}, 1, api.ErrSize, 0},
		{[5]int{1, 0, 0, 0, -1}, 1, api.ErrSize, 0},
		{[5]int{513, 0, 0, 0, 0}, 1, api.ErrSize, 0},
		{[5]int{0, 0, 0, 0, 513}, 1, api.ErrSize, 0},
		{[5]int{math.MaxInt, math.MaxInt, 3, 0, 0}, 1, api.ErrSize, 0},
		{[5]int{math.MinInt, math.MinInt, 1, 0, 0}, 1, api.ErrSize, 0},
		{[5]int{math.MinInt, math.MaxInt, 2, 0, 0}, 1, api.ErrSize, 0},

		{[5]int{1, 0, 0, 0, 0}, 0, api.ErrArg, 0},
		{[5]int{1, 0, 0, 0, 0}, -1, api.ErrArg, 0},
		{[5]int{1, 0, 0, 0, 0}, 17, api.ErrArg, 0},
		{[5]int{1, 0, 0, 0, 0}, math.MaxInt, api.ErrArg, 0},
		{[5]int{1, 0, 0, 0, 0}, math.MinInt, api.ErrArg, 0},

		{[5]int{}, 0, api.ErrSize, 0},
		{[5]int{0, 0, 513, 0, 0}, 17, api.ErrSize, 0},
		{[5]int{512, 509, 0, 0, 0}, -1, api.ErrSize, 0},
	} {
		config := api.Config{Cells: c.cells, Pace: c.pace}
		if got := fit.Right(config); got != c.right {
			t.Errorf("P3.1: case %d: Right: %d, not %d", i, got, c.right)
		}
		if got := fit.Total(config); got != c.total {
			t.Errorf("P3.1: case %d: Total: %d, not %d", i, got, c.total)
		}
	}
	for pace := 1; pace <= 16; pace++ {
		config := api.Config{Cells: [5]int{3, 0, 2, 0, 1}, Pace: pace}
		if fit.Right(config) != api.OK || fit.Total(config) != 12+32+64 {
			t.Errorf("P3.1: pace %d is refused", pace)
		}
	}
}

func TestRuns(t *testing.T) {
	if fit.Of(2) != 0 || fit.Of(63) != -1 || fit.Waste(3) != 3 {
		t.Errorf("P3.1: the chapter's runs: %d, %d, %d", fit.Of(2), fit.Of(63), fit.Waste(3))
	}
}
