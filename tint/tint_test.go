package tint

import (
	"math"
	"testing"

	"gobo/api"
)

var (
	nan   = math.NaN()
	inf   = math.Inf(1)
	minus = math.Copysign(0, -1)
)

func bits(a, b float64) bool { return math.Float64bits(a) == math.Float64bits(b) }

// 1.1: Part limits, with NaN, the infinities and both zeros.
func TestPart(t *testing.T) {
	for _, x := range []struct{ in, want float64 }{
		{nan, 0}, {-nan, 0}, {inf, 1}, {-inf, 0}, {minus, 0}, {0, 0}, {-1, 0}, {-5e-324, 0}, {5e-324, 5e-324},
		{0.25, 0.25}, {math.Nextafter(1, 0), math.Nextafter(1, 0)}, {1, 1}, {math.Nextafter(1, 2), 1}, {math.MaxFloat64, 1},
	} {
		if got := Part(x.in); !bits(got, x.want) {
			t.Errorf("Part(%v) = %v, want %v", x.in, got, x.want)
		}
	}
}

// 1.1, 1.4: every colour fits.
func TestFit(t *testing.T) {
	if got := Fit(api.Color{R: minus, G: nan, B: 7}); !Same(got, api.Color{B: 1}) {
		t.Error(got)
	}
	if got := Fit(api.Color{R: 0.1, G: 0.2, B: 0.3}); !Same(got, api.Color{R: 0.1, G: 0.2, B: 0.3}) {
		t.Error(got)
	}
}

// 1.1: Mix hands out a and b unchanged at its ends, and mixes what fits between.
func TestMix(t *testing.T) {
	a, b := api.Color{R: minus, G: nan, B: 7}, api.Color{R: 1, G: 0.5, B: minus}
	for _, x := range []struct {
		t    float64
		want api.Color
	}{
		{0, a}, {minus, a}, {nan, a}, {-inf, a}, {-2, a}, {1, b}, {2, b}, {inf, b},
		{0.5, api.Color{R: 0.5, G: 0.25, B: 0.5}}, {0.25, api.Color{R: 0.25, G: 0.125, B: 0.75}},
	} {
		if got := Mix(a, b, x.t); !Same(got, x.want) {
			t.Errorf("Mix(%v) = %v, want %v", x.t, got, x.want)
		}
	}
	var p, q, u = 0.1, 0.7, 0.3
	d := q - p
	m := d * u
	if got := Mix(api.Color{R: p}, api.Color{R: q}, u).R; !bits(got, p+m) {
		t.Errorf("rounded otherwise: %v, want %v", got, p+m)
	}
}

// 1.2: bytes and back.
func TestByte(t *testing.T) {
	for _, x := range []struct {
		in   float64
		want uint8
	}{{nan, 0}, {0, 0}, {minus, 0}, {0.5, 128}, {1, 255}, {inf, 255}, {-inf, 0}, {1.0 / 512, 0}, {0.5 / 255, 1}, {254.4 / 255, 254}} {
		if got := Byte(x.in); got != x.want {
			t.Errorf("Byte(%v) = %v, want %v", x.in, got, x.want)
		}
	}
	for i := 0; i < 256; i++ {
		if Byte(Of(uint8(i))) != uint8(i) || Of(uint8(i)) != float64(i)/255 {
			t.Errorf("Of(%d)", i)
		}
	}
}

// 1.3: lightness and distance.
func TestLight(t *testing.T) {
	for _, x := range []struct {
		c    api.Color
		want float64
	}{
		{api.Color{R: 1, G: 1, B: 1}, 1}, {api.Color{R: 1, B: inf}, 0.375}, {api.Color{G: nan}, 0}, {api.Color{G: 1}, 0.625},
		{api.Color{R: minus, G: -1, B: 0.5}, 0.0625},
	} {
		if got := Light(x.c); !bits(got, x.want) {
			t.Errorf("Light(%v) = %v", x.c, got)
		}
	}
	if Far(api.Color{R: 1}, api.Color{G: 1}) != 0.375 || Far(api.Color{G: 1}, api.Color{R: 1}) != 0.375 {
		t.Error("Far")
	}
	if c := (api.Color{R: nan}); !bits(Far(c, c), 0) {
		t.Error("Far of itself")
	}
}

// 1.3: Same keeps zeros apart and holds NaN to be itself, in each part.
func TestSame(t *testing.T) {
	for i, set := range []func(*api.Color, float64){
		func(c *api.Color, f float64) { c.R = f },
		func(c *api.Color, f float64) { c.G = f },
		func(c *api.Color, f float64) { c.B = f },
	} {
		for _, x := range []struct {
			a, b float64
			want bool
		}{{nan, -nan, true}, {nan, 0, false}, {0, nan, false}, {0, minus, false}, {minus, minus, true}, {inf, inf, true}, {inf, -inf, false}, {1, 2, false}} {
			var a, b api.Color
			set(&a, x.a)
			set(&b, x.b)
			if Same(a, b) != x.want {
				t.Errorf("part %d: Same(%v, %v)", i, x.a, x.b)
			}
		}
	}
}
