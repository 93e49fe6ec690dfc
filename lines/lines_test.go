package lines

import (
	"math"
	"math/rand"
	"slices"
	"strings"
	"testing"

	"gobo/api"
)

// 4.1: starts.
func TestStarts(t *testing.T) {
	for _, x := range []struct {
		in   string
		want []int
	}{{"", []int{0}}, {"a\nb", []int{0, 2}}, {"ab\n\r\nc", []int{0, 3, 5}}, {"\n", []int{0, 1}}, {"\r", []int{0}}, {"a\n\n", []int{0, 2, 3}}} {
		if got := Starts([]byte(x.in)); !slices.Equal(got, x.want) {
			t.Errorf("Starts(%q) = %v", x.in, got)
		}
	}
}

// 4.1: Find, and lists that are none of starts.
func TestFind(t *testing.T) {
	for _, x := range []struct {
		l           []int
		at          int
		line, apart int
	}{
		{[]int{0, 3, 5}, 2, 0, 2}, {[]int{0, 3, 5}, 3, 1, 0}, {[]int{0, 3, 5}, 4, 1, 1}, {[]int{0, 3, 5}, 99, 2, 94}, {[]int{0, 3, 5}, 0, 0, 0}, {[]int{0}, math.MaxInt, 0, math.MaxInt},
		{[]int{0, 3, 3}, 1, -1, -1}, {[]int{0, 0}, 0, -1, -1}, {[]int{0, -1}, 0, -1, -1}, {[]int{0, 0, 3}, 1, -1, -1}, {[]int{0, 3, 2}, 1, -1, -1}, {[]int{1, 3}, 2, -1, -1}, {[]int{-1, 3}, 2, -1, -1}, {nil, 0, -1, -1}, {[]int{0, 3, 5}, -1, -1, -1}, {[]int{0}, math.MinInt, -1, -1},
	} {
		if line, apart := Find(x.l, x.at); line != x.line || apart != x.apart {
			t.Errorf("Find(%v, %d) = %d, %d", x.l, x.at, line, apart)
		}
	}
}

// 4.1: Ends, with and without a byte 13, and lines that there are not.
func TestEnds(t *testing.T) {
	s := "ab\n\r\nc\r\nd\re"
	for _, x := range []struct {
		s              string
		line, from, to int
	}{
		{s, 0, 0, 2}, {s, 1, 3, 3}, {s, 2, 5, 6}, {s, 3, 8, 11}, {s, 4, -1, -1}, {s, -1, -1, -1}, {s, math.MinInt, -1, -1}, {s, math.MaxInt, -1, -1},
		{"", 0, 0, 0}, {"", 1, -1, -1}, {"\n", 0, 0, 0}, {"\n", 1, 1, 1}, {"a\r", 0, 0, 2}, {"\r\r\n", 0, 0, 1}, {"a\n\n", 1, 2, 2}, {"a\n\n", 2, 3, 3},
	} {
		if from, to := Ends([]byte(x.s), x.line); from != x.from || to != x.to {
			t.Errorf("Ends(%q, %d) = %d, %d", x.s, x.line, from, to)
		}
	}
}

// 4.2: the Index of the chapter, its wrong calls, and no Index at all.
func TestIndex(t *testing.T) {
	x := New()
	if !slices.Equal(x.Starts(), []int{0}) {
		t.Error(x.Starts())
	}
	x.Feed([]byte("ab\nc"))
	x.Feed([]byte("d\n\n"))
	if !slices.Equal(x.Starts(), []int{0, 3, 6, 7}) {
		t.Error(x.Starts())
	}
	for _, w := range [][2]int{{-1, 0}, {0, -1}, {8, 0}, {7, 1}, {0, 8}, {3, math.MaxInt}, {math.MaxInt, 1}, {math.MaxInt, math.MaxInt}, {math.MinInt, 0}} {
		if code := x.Splice(w[0], w[1], []byte("\n"), 0); code != api.ErrRange || !slices.Equal(x.Starts(), []int{0, 3, 6, 7}) {
			t.Error(w, code)
		}
	}
	if code := x.Splice(7, 0, nil, 10); code != api.OK || !slices.Equal(x.Starts(), []int{0, 3, 6, 7}) {
		t.Error(code, x.Starts())
	}
	if code := x.Splice(2, 1, nil, 'x'); code != api.OK || !slices.Equal(x.Starts(), []int{0, 5, 6}) {
		t.Error(code, x.Starts())
	}
	x.Starts()[0] = 9
	if x.Starts()[0] != 0 {
		t.Error("shared")
	}
	var none *Index
	none.Feed([]byte("a"))
	if len(none.Starts()) != 0 || none.Splice(-1, 0, nil, 0) != api.ErrState {
		t.Error("nil")
	}
}

// 4.2, 4.3: after any splices the starts are those of the spliced text.
func TestSplices(t *testing.T) {
	r := rand.New(rand.NewSource(4))
	text := func() string {
		var s strings.Builder
		for n := r.Intn(5); n > 0; n-- {
			s.WriteByte("a\n\r\n"[r.Intn(4)])
		}
		return s.String()
	}
	for i := 0; i < 300; i++ {
		x, s := New(), ""
		for k := 0; k < 20; k++ {
			if r.Intn(3) == 0 {
				p := text()
				x.Feed([]byte(p))
				s += p
				continue
			}
			at := r.Intn(len(s) + 1)
			del := r.Intn(len(s) - at + 1)
			ins := text()
			if code := x.Splice(at, del, []byte(ins), byte(r.Intn(256))); code != api.OK {
				t.Fatal(code)
			}
			s = s[:at] + ins + s[at+del:]
			if !slices.Equal(x.Starts(), Starts([]byte(s))) {
				t.Fatalf("%q: %v", s, x.Starts())
			}
		}
	}
}
