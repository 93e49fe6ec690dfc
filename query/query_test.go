package query

import (
	"math"
	"math/rand"
	"slices"
	"testing"

	"gobo/api"
	"gobo/compile"
	"gobo/emit"
)

const source = `tok a int 1 = /aa*/
tok x int 2 = /x|\n/
tok c call 3 = /cc|c/
tok d ret 4 = /dd*/
`

const doc = "cba\ncxadd.."

func out(t *testing.T, s string) api.Out {
	t.Helper()
	x, code, at := compile.Source("tok a int 1 = /a/\ntok c call 3 = /c/\ntok d ret 4 = /d/\n", api.MaxStates)
	if code != api.OK {
		t.Fatal(code, at)
	}
	return emit.Whole(x, []byte(s))
}

// 26.1: parts, and what is no range.
func TestRange(t *testing.T) {
	o := out(t, doc)
	for _, w := range [][3]int{{11, 4, 3}, {11, -1, 3}, {11, 0, 12}, {11, 12, 12}, {-1, 0, 0}, {3, 0, math.MaxInt}, {math.MinInt, 0, 0}, {11, math.MinInt, math.MaxInt}} {
		if got, code := Range(o, w[0], w[1], w[2]); code != api.ErrRange || !emit.Same(got, api.Out{}) {
			t.Error(w, code)
		}
	}
	for _, x := range []struct{ lo, hi, spans, matches, folds, diags int }{{0, 11, 11, 2, 1, 5}, {0, 0, 0, 0, 0, 0}, {11, 11, 0, 0, 0, 0}, {5, 5, 0, 0, 0, 0}, {0, 1, 1, 1, 1, 0}, {1, 4, 3, 0, 0, 2}, {7, 8, 1, 1, 0, 0}, {8, 9, 1, 1, 1, 0}, {4, 9, 5, 2, 1, 1}, {9, 11, 2, 0, 0, 2}} {
		got, code := Range(o, 11, x.lo, x.hi)
		if code != api.OK || len(got.Spans) != x.spans || len(got.Matches) != x.matches || len(got.Folds) != x.folds || len(got.Diags) != x.diags || len(got.Checks) != 0 {
			t.Errorf("%v: %v", x, got)
		}
	}
	got, _ := Range(o, 11, 0, 11)
	if !slices.Equal(got.Spans, o.Spans) || !slices.Equal(got.Matches, o.Matches) || !slices.Equal(got.Folds, o.Folds) || !slices.Equal(got.Diags, o.Diags) {
		t.Error("order")
	}
	got.Spans[0].Tok, got.Diags[0].Kind = 99, 99
	if o.Spans[0].Tok == 99 || o.Diags[0].Kind == 99 {
		t.Error("shared")
	}
	if got, code := Range(out(t, ""), 0, 0, 0); code != api.OK || !emit.Same(got, api.Out{}) {
		t.Error("empty")
	}
}

// 26.2: spans, partners and what is around.
func TestAt(t *testing.T) {
	o := out(t, doc)
	for at, want := range map[int]int{0: 0, 10: 10, 11: -1, -1: -1, math.MaxInt: -1, math.MinInt: -1} {
		if At(o, at) != want {
			t.Errorf("At(%d) = %d", at, At(o, at))
		}
	}
	for at, want := range map[int]int{0: 8, 8: 0, 4: 7, 7: 4, 1: -1, 5: -1, 9: -1, 11: -1, -1: -1, math.MaxInt: -1} {
		if Partner(o, at) != want {
			t.Errorf("Partner(%d) = %d", at, Partner(o, at))
		}
	}
	for at, want := range map[int][2]int{6: {4, 7}, 4: {4, 7}, 7: {4, 7}, 3: {0, 8}, 0: {0, 8}, 8: {0, 8}, 9: {-1, -1}, -1: {-1, -1}, 11: {-1, -1}, math.MaxInt: {-1, -1}, math.MinInt: {-1, -1}} {
		if a, b := Around(o, at); a != want[0] || b != want[1] {
			t.Errorf("Around(%d) = %d, %d", at, a, b)
		}
	}
	if At(api.Out{}, 0) != -1 || Partner(api.Out{}, 0) != -1 {
		t.Error("nothing")
	}
	if a, b := Around(api.Out{}, 0); a != -1 || b != -1 {
		t.Error("nothing")
	}
	open := out(t, "ccd")
	if Partner(open, 0) != -1 || Partner(open, 1) != 2 {
		t.Error("open")
	}
}

// 26.1 to 26.3: by the words of the chapter, with tokens of several bytes.
func TestAny(t *testing.T) {
	x, code, at := compile.Source(source, api.MaxStates)
	if code != api.OK {
		t.Fatal(code, at)
	}
	r := rand.New(rand.NewSource(26))
	for i := 0; i < 500; i++ {
		var b []byte
		for n := r.Intn(25); n > 0; n-- {
			b = append(b, "aacccddx\n.\xff"[r.Intn(11)])
		}
		o := emit.Whole(x, b)
		find := func(from int) api.Span {
			return o.Spans[slices.IndexFunc(o.Spans, func(s api.Span) bool { return s.From == from })]
		}
		for p := range b {
			partner, best := -1, api.Match{Call: -1, Ret: -1}
			for k, s := range o.Spans {
				in := s.From <= p && p < s.To
				if in != (At(o, p) == k) {
					t.Fatalf("%q: At(%d)", b, p)
				}
				for _, m := range o.Matches {
					if in && m.Call == s.From {
						partner = m.Ret
					}
					if in && m.Ret == s.From {
						partner = m.Call
					}
				}
			}
			for _, m := range o.Matches {
				if m.Call <= p && find(m.Ret).To > p && m.Call > best.Call {
					best = m
				}
			}
			if Partner(o, p) != partner {
				t.Fatalf("%q: Partner(%d)", b, p)
			}
			if a, c := Around(o, p); a != best.Call || c != best.Ret {
				t.Fatalf("%q: Around(%d)", b, p)
			}
		}
		lo := r.Intn(len(b) + 1)
		hi := lo + r.Intn(len(b)-lo+1)
		has := func(from int) bool { s := find(from); return s.From < hi && s.To > lo && lo < hi }
		want := api.Out{}
		for _, s := range o.Spans {
			if has(s.From) {
				want.Spans = append(want.Spans, s)
			}
		}
		for _, m := range o.Matches {
			if has(m.Call) || has(m.Ret) {
				want.Matches = append(want.Matches, m)
			}
		}
		for _, f := range o.Folds {
			if has(f.Call) || has(f.Ret) {
				want.Folds = append(want.Folds, f)
			}
		}
		for _, d := range o.Diags {
			if has(d.From) {
				want.Diags = append(want.Diags, d)
			}
		}
		if got, code := Range(o, len(b), lo, hi); code != api.OK || !emit.Same(got, want) {
			t.Fatalf("%q from %d to %d: %v, want %v", b, lo, hi, got, want)
		}
	}
}
