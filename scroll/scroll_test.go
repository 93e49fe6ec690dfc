package scroll

import (
	"math"
	"testing"
)

var (
	nan   = math.NaN()
	inf   = math.Inf(1)
	minus = math.Copysign(0, -1)
)

func bits(a, b float64) bool { return math.Float64bits(a) == math.Float64bits(b) }

// 2.1, 2.3: every position has a line, whatever the numbers.
func TestLine(t *testing.T) {
	for _, x := range []struct {
		f     float64
		lines int
		want  int
	}{
		{0.5, 4, 2}, {0.5, 3, 1}, {nan, 9, 0}, {inf, 9, 8}, {-inf, 9, 0}, {minus, 9, 0}, {7, 9, 8}, {0.49, 2, 0}, {0.5, 2, 1},
		{1, 1 << 40, 1<<20 - 1}, {1, 1 << 20, 1<<20 - 1}, {1, 1<<20 - 1, 1<<20 - 2}, {1, 0, 0}, {1, -5, 0}, {1, math.MinInt, 0}, {1, math.MaxInt, 1<<20 - 1}, {1, 1, 0},
	} {
		if got := Line(x.f, x.lines); got != x.want {
			t.Errorf("Line(%v, %d) = %d, want %d", x.f, x.lines, got, x.want)
		}
	}
}

// 2.1: and every line a place, from which it is found again.
func TestPlace(t *testing.T) {
	for _, x := range []struct {
		line, lines int
		want        float64
	}{{1, 5, 0.25}, {9, 5, 1}, {5, 5, 1}, {4, 5, 1}, {-1, 5, 0}, {math.MinInt, 5, 0}, {3, 1, 0}, {3, 0, 0}, {3, -4, 0}, {1 << 30, 1 << 30, 1}, {math.MaxInt, 2, 1}} {
		if got := Place(x.line, x.lines); !bits(got, x.want) {
			t.Errorf("Place(%d, %d) = %v, want %v", x.line, x.lines, got, x.want)
		}
	}
	for lines := 1; lines < 50; lines++ {
		for line := 0; line < lines; line++ {
			if Line(Place(line, lines), lines) != line {
				t.Errorf("line %d of %d is lost", line, lines)
			}
		}
	}
}

// 2.1: steps.
func TestStep(t *testing.T) {
	for _, x := range []struct{ f, by, want float64 }{
		{0.5, 0.25, 0.75}, {0.5, inf, 1}, {0.5, -inf, 0}, {7, -0.5, 0.5}, {0.5, nan, 0.5}, {nan, nan, 0}, {nan, 0.5, 0.5},
		{inf, -inf, 0}, {-inf, inf, 1}, {minus, minus, 0}, {9, nan, 1}, {0.5, 3, 1}, {0.5, -3, 0},
	} {
		if got := Step(x.f, x.by); !bits(got, x.want) {
			t.Errorf("Step(%v, %v) = %v, want %v", x.f, x.by, got, x.want)
		}
	}
}

// 2.2: windows.
func TestWindow(t *testing.T) {
	for _, x := range []struct {
		f           float64
		lines, rows int
		from, to    int
	}{
		{0.5, 8, 2, 3, 5}, {0.5, 10, 20, 0, 10}, {1, 10, 10, 0, 10}, {1, 10, 9, 1, 10}, {0, 10, 9, 0, 9}, {nan, 10, 3, 0, 3}, {inf, 10, 3, 7, 10},
		{1, 0, 0, 0, 1}, {1, 5, -3, 4, 5}, {1, math.MaxInt, 1, 1<<20 - 1, 1 << 20}, {0.3, 1 << 40, 1 << 41, 0, 1 << 20},
	} {
		if from, to := Window(x.f, x.lines, x.rows); from != x.from || to != x.to {
			t.Errorf("Window(%v, %d, %d) = %d, %d", x.f, x.lines, x.rows, from, to)
		}
	}
}

// 2.2: bars.
func TestBar(t *testing.T) {
	for _, x := range []struct {
		f            float64
		lines, rows  int
		from, length float64
	}{
		{0.5, 8, 2, 0.375, 0.25}, {0.5, 8, 8, 0, 1}, {0.5, 8, 9, 0, 1}, {1, 8, 2, 0.75, 0.25}, {nan, 8, 2, 0, 0.25}, {inf, 8, 2, 0.75, 0.25}, {-inf, 8, 2, 0, 0.25}, {minus, 8, 2, 0, 0.25},
		{1, 4, 0, 0.75, 0.25}, {1, -1, -1, 0, 1}, {1, 1 << 40, 1 << 19, 0.5, 0.5},
	} {
		if from, length := Bar(x.f, x.lines, x.rows); !bits(from, x.from) || !bits(length, x.length) {
			t.Errorf("Bar(%v, %d, %d) = %v, %v", x.f, x.lines, x.rows, from, length)
		}
	}
}
