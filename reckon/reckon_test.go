package reckon

import (
	"math"
	"testing"

	"bellwright/api"
)

// D2, F2: Add to Less, which go round, Div towards 0.
func TestOf(t *testing.T) {
	for _, c := range []struct{ op, a, b, want int }{
		{api.Add, 3, 4, 7}, {api.Add, math.MaxInt64, 1, math.MinInt64}, {api.Add, math.MinInt64, math.MinInt64, 0},
		{api.Sub, 3, 4, -1}, {api.Sub, math.MinInt64, 1, math.MaxInt64}, {api.Sub, 0, math.MinInt64, math.MinInt64},
		{api.Mul, -3, 4, -12}, {api.Mul, math.MaxInt64, 2, -2}, {api.Mul, 1 << 32, 1 << 32, 0}, {api.Mul, math.MinInt64, -1, math.MinInt64},
		{api.Div, 7, 2, 3}, {api.Div, -7, 2, -3}, {api.Div, 7, -2, -3}, {api.Div, -7, -2, 3}, {api.Div, 0, 5, 0}, {api.Div, math.MinInt64, -1, math.MinInt64},
		{api.Rem, 7, 2, 1}, {api.Rem, -7, 2, -1}, {api.Rem, 7, -2, 1}, {api.Rem, -7, -2, -1}, {api.Rem, math.MinInt64, -1, 0},
		{api.Eq, 3, 3, 1}, {api.Eq, 3, 4, 0}, {api.Eq, math.MinInt64, math.MaxInt64, 0}, {api.Eq, 0, 0, 1},
		{api.Less, 3, 4, 1}, {api.Less, 4, 4, 0}, {api.Less, 5, 4, 0}, {api.Less, math.MinInt64, math.MaxInt64, 1}, {api.Less, math.MaxInt64, math.MinInt64, 0},
	} {
		if n, ok := Of(c.op, c.a, c.b); n != c.want || !ok {
			t.Errorf("%d of %d and %d: %d %v, must be %d", c.op, c.a, c.b, n, ok, c.want)
		}
	}
}

// A false comes with 0 beside it.
func TestOfNone(t *testing.T) {
	for _, op := range []int{api.Div, api.Rem} {
		for _, a := range []int{0, 1, -1, math.MaxInt64, math.MinInt64} {
			if n, ok := Of(op, a, 0); n != 0 || ok {
				t.Errorf("%d of %d by 0: %d %v", op, a, n, ok)
			}
		}
	}
	for op := -3; op < 30; op++ {
		_, ok := Of(op, 6, 3)
		if is := op >= 9 && op <= 15; ok != is || IsOp(op) != is {
			t.Errorf("%d: %v %v, must be %v", op, ok, IsOp(op), is)
		}
	}
	for _, op := range []int{math.MinInt64, math.MaxInt64, api.Add + 1<<32} {
		if n, ok := Of(op, 6, 3); n != 0 || ok || IsOp(op) {
			t.Errorf("%d: %d %v", op, n, ok)
		}
	}
}

func TestTruth(t *testing.T) {
	if Truth(true) != 1 || Truth(false) != 0 {
		t.Error("truth is 1 or 0")
	}
}
