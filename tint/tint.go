// Package tint is colours: see DOC.md, chapter 1.
package tint

import (
	"math"

	"gobo/api"
)

// Part limits f to 0 to 1. Every value that is no ordinary number is a case of
// its own, because comparisons answer false for NaN and don't tell the zeros
// apart.
func Part(f float64) float64 {
	switch {
	case math.IsNaN(f), math.IsInf(f, -1):
		return 0
	case math.IsInf(f, 1):
		return 1
	case f <= 0: // -0 too, and what is handed out is +0
		return 0
	case f >= 1:
		return 1
	}
	return f
}

// Fit is c with each of its parts limited.
func Fit(c api.Color) api.Color {
	return api.Color{R: Part(c.R), G: Part(c.G), B: Part(c.B)}
}

// Mix is the colour that lies t of the way from a to b.
func Mix(a, b api.Color, t float64) api.Color {
	u := Part(t)
	if u == 0 {
		return a
	}
	if u == 1 {
		return b
	}
	x, y := Fit(a), Fit(b)
	return api.Color{R: between(x.R, y.R, u), G: between(x.G, y.G, u), B: between(x.B, y.B, u)}
}

// between rounds the product by itself: a machine that fuses it with the sum
// would answer other bits.
func between(a, b, u float64) float64 {
	return a + float64((b-a)*u)
}

// Byte is the part f as a byte, the nearest one.
func Byte(f float64) uint8 {
	return uint8(math.Floor(float64(Part(f)*255) + 0.5))
}

// Of is the part that the byte b stands for.
func Of(b uint8) float64 {
	return float64(b) / 255
}

// Light is the lightness of c.
func Light(c api.Color) float64 {
	f := Fit(c)
	return float64(0.25*f.R) + float64(0.625*f.G) + float64(0.125*f.B)
}

// Far is how far a and b are from each other in lightness.
func Far(a, b api.Color) float64 {
	return math.Abs(Light(a) - Light(b))
}

// Same reports whether a and b are identical part by part.
func Same(a, b api.Color) bool {
	return identical(a.R, b.R) && identical(a.G, b.G) && identical(a.B, b.B)
}

// identical holds NaN to be itself, and keeps the two zeros apart.
func identical(a, b float64) bool {
	if math.IsNaN(a) || math.IsNaN(b) {
		return math.IsNaN(a) && math.IsNaN(b)
	}
	return a == b && math.Signbit(a) == math.Signbit(b)
}
