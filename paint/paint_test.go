package paint

import (
	"math"
	"math/rand"
	"slices"
	"testing"

	"gobo/api"
	"gobo/compile"
	"gobo/emit"
	"gobo/lines"
	"gobo/scroll"
	"gobo/tint"
)

const source = "tok a int 1 = /aa*/\ntok b int 2 = /b/\ntok c int 3 = /c\\n*/\ntok q int 4 = /\"[^\"]*\"/\n"

func out(t *testing.T, s string) api.Out {
	t.Helper()
	x, code, at := compile.Source(source, api.MaxStates)
	if code != api.OK {
		t.Fatal(code, at)
	}
	return emit.Whole(x, []byte(s))
}

var (
	nan   = math.NaN()
	theme = []api.Color{{R: 1}, {G: 1}, {G: 1, R: nan}, {B: 7}, {R: 0.5, G: 0.5, B: 0.5}}
)

// 27.1: colours of classes.
func TestTheme(t *testing.T) {
	for class, want := range map[int]api.Color{0: {R: 1}, 2: {G: 1}, 3: {B: 1}, 4: {R: 0.5, G: 0.5, B: 0.5}, 5: {}, -1: {}, math.MaxInt: {}, math.MinInt: {}} {
		if got := Theme(theme, class); !tint.Same(got, want) {
			t.Errorf("Theme(%d) = %v", class, got)
		}
	}
	if !tint.Same(Theme(nil, 0), api.Color{}) {
		t.Error("empty")
	}
}

// 27.1: cells of a line.
func TestLine(t *testing.T) {
	s := "cbba\r\nc\n\naab\"x\ny\"ba\n"
	o := out(t, s)
	green, blue, grey := api.Cell{G: 255}, api.Cell{B: 255}, api.Cell{R: 128, G: 128, B: 128}
	at := func(c api.Cell, from, to int) api.Cell {
		c.From, c.To = from, to
		return c
	}
	for line, want := range map[int][]api.Cell{
		0: {at(blue, 0, 1), at(green, 1, 4)}, 1: {at(blue, 6, 7)}, 2: nil, 3: {at(green, 9, 12), at(grey, 12, 14)}, 4: {at(grey, 15, 17), at(green, 17, 19)}, 5: nil, 6: nil, -1: nil, math.MaxInt: nil, math.MinInt: nil,
	} {
		if got := Line([]byte(s), o, theme, line); !slices.Equal(got, want) {
			t.Errorf("line %d: %v, want %v", line, got, want)
		}
	}
	if got := Line([]byte(s), o, nil, 0); !slices.Equal(got, []api.Cell{{To: 4}}) {
		t.Error(got)
	}
	if got := Line(nil, out(t, ""), theme, 0); len(got) != 0 {
		t.Error(got)
	}
}

// 27.1: spans that are not all bytes, or more, and cells that don't touch.
func TestSpans(t *testing.T) {
	o := api.Out{Spans: []api.Span{{From: 1, To: 2, Class: 1}, {From: 3, To: 99, Class: 1}}}
	if got := Line([]byte("abcde\nx"), o, theme, 0); !slices.Equal(got, []api.Cell{{From: 1, To: 2, G: 255}, {From: 3, To: 5, G: 255}}) {
		t.Error(got)
	}
	if got := Screen([]byte("abcde\nx"), o, theme, 0, 2); len(got) != 2 || !slices.Equal(got[1], []api.Cell{{From: 6, To: 7, G: 255}}) {
		t.Error(got)
	}
}

// 27.1: what is seen.
func TestScreen(t *testing.T) {
	b := []byte("a\nb\nc")
	o := out(t, string(b))
	if got := Screen(b, o, theme, 1, 2); len(got) != 2 || got[0][0].From != 2 || got[1][0].From != 4 {
		t.Error(got)
	}
	if got := Screen(b, o, theme, nan, -5); len(got) != 1 || got[0][0].From != 0 {
		t.Error(got)
	}
	if got := Screen(nil, out(t, ""), theme, 0.5, 9); len(got) != 1 || len(got[0]) != 0 {
		t.Error(got)
	}
}

// 27.1, 27.3: a screen is its lines, and a line the bytes of its spans.
func TestAny(t *testing.T) {
	r := rand.New(rand.NewSource(27))
	for i := 0; i < 500; i++ {
		var b []byte
		for n := r.Intn(30); n > 0; n-- {
			b = append(b, "aabbcx\n\n\r\"\xff"[r.Intn(11)])
		}
		o := out(t, string(b))
		f, rows := float64(r.Intn(5))/4, r.Intn(8)
		first, end := scroll.Window(f, len(lines.Starts(b)), rows)
		got := Screen(b, o, theme, f, rows)
		if len(got) != end-first {
			t.Fatalf("%q: %d lines", b, len(got))
		}
		for k, l := range got {
			if !slices.Equal(l, Line(b, o, theme, first+k)) {
				t.Fatalf("%q: line %d", b, first+k)
			}
			from, to := lines.Ends(b, first+k)
			at := from
			for _, c := range l {
				if c.From != at || c.To <= c.From {
					t.Fatalf("%q: %v", b, l)
				}
				for ; at < c.To; at++ {
					s := o.Spans[slices.IndexFunc(o.Spans, func(s api.Span) bool { return s.From <= at && at < s.To })]
					if w := tint.Fit(Theme(theme, s.Class)); c.R != tint.Byte(w.R) || c.G != tint.Byte(w.G) || c.B != tint.Byte(w.B) {
						t.Fatalf("%q: byte %d: %v", b, at, c)
					}
				}
			}
			if at != to {
				t.Fatalf("%q: ends at %d", b, at)
			}
		}
	}
}

// 27.2: fading.
func TestFade(t *testing.T) {
	got := Fade([]api.Color{{R: 1}, {R: nan}}, api.Color{G: 1}, 0.5)
	if len(got) != 2 || !tint.Same(got[0], api.Color{R: 0.5, G: 0.5}) || !tint.Same(got[1], api.Color{G: 0.5}) {
		t.Error(got)
	}
	if got = Fade([]api.Color{{R: nan}}, api.Color{}, nan); !tint.Same(got[0], api.Color{R: nan}) {
		t.Error(got)
	}
	if len(Fade(nil, api.Color{}, 1)) != 0 {
		t.Error("empty")
	}
}
