package emit

import (
	"math/rand"
	"slices"
	"strings"
	"testing"

	"gobo/api"
	"gobo/compile"
)

const source = `tok a int 1 = /a/
tok aab int 2 = /aab/
tok o call 3 = /o|<*>/
tok c ret 4 = /c/
tok nl int 5 = /[\n\r]/
tok long int 6 = /"[^"]*"/
rule 10 free ^ {o} {a}
rule 11 _ {aab}
`

func tables(t *testing.T, s string) *compile.Tables {
	t.Helper()
	x, code, at := compile.Source(s, api.MaxStates)
	if code != api.OK {
		t.Fatal(code, at)
	}
	return x
}

// 22.1: an empty document, and what is no document.
func TestEmpty(t *testing.T) {
	x := tables(t, source)
	want := api.Out{Checks: []api.Check{{}}}
	if got := Whole(x, nil); !Same(got, want) {
		t.Error(got)
	}
	if got := Model(x.Grammar(), []byte{}); !Same(got, want) {
		t.Error(got)
	}
	large := make([]byte, api.MaxDoc+1)
	if !Same(Whole(nil, []byte("a")), api.Out{}) || !Same(Whole(nil, nil), api.Out{}) || !Same(Whole(x, large), api.Out{}) || !Same(Model(x.Grammar(), large), api.Out{}) || !Same(Model(api.Grammar{}, []byte("a")), api.Out{}) || !Same(Whole(new(compile.Tables), []byte("a")), api.Out{}) {
		t.Error("not empty")
	}
	for i := range large {
		large[i] = 'x'
	}
	large[1], large[api.MaxDoc] = '"', '"'
	if got := Model(x.Grammar(), large[1:]); len(got.Spans) != 1 || len(got.Checks) != 1 {
		t.Error(len(got.Spans))
	}
	large = make([]byte, api.MaxDoc+1)
	if got := Whole(x, large[1:]); len(got.Spans) != api.MaxDoc || len(got.Diags) != api.MaxDoc {
		t.Error(len(got.Spans))
	}
}

// 22.1: each part of an analysis.
func TestWhole(t *testing.T) {
	x := tables(t, source)
	got := Whole(x, []byte("oa\nc\xffc\"x\n\n\"o\xe2\x82\n<>x"))
	spans := []api.Span{{From: 0, To: 1, Tok: 2, Class: 3}, {From: 1, To: 2, Tok: 0, Class: 10}, {From: 2, To: 3, Tok: 4, Class: 5}, {From: 3, To: 4, Tok: 3, Class: 4}, {From: 4, To: 5, Tok: -1}, {From: 5, To: 6, Tok: 3, Class: 4}, {From: 6, To: 11, Tok: 5, Class: 6}, {From: 11, To: 12, Tok: 2, Class: 3}, {From: 12, To: 14, Tok: -1}, {From: 14, To: 15, Tok: 4, Class: 5}, {From: 15, To: 17, Tok: 2, Class: 3}, {From: 17, To: 18, Tok: -1}}
	if !slices.Equal(got.Spans, spans) {
		t.Error(got.Spans)
	}
	if !slices.Equal(got.Matches, []api.Match{{Call: 0, Ret: 3}}) || !slices.Equal(got.Folds, []api.Fold{{First: 0, Last: 1, Call: 0, Ret: 3}}) {
		t.Error(got.Matches, got.Folds)
	}
	diags := []api.Diag{{Kind: api.DBad, From: 4, To: 5}, {Kind: api.DErr, From: 4, To: 5}, {Kind: api.DRet, From: 5, To: 6}, {Kind: api.DCall, From: 11, To: 12}, {Kind: api.DBad, From: 12, To: 14}, {Kind: api.DErr, From: 12, To: 14}, {Kind: api.DCall, From: 15, To: 17}, {Kind: api.DErr, From: 17, To: 18}}
	if !slices.Equal(got.Diags, diags) {
		t.Error(got.Diags)
	}
	anchors := [][3]int{{0, 0, 0}, {3, 4, 1}, {6, 7, 0}, {6, 7, 0}, {15, 16, 1}}
	if len(got.Checks) != len(anchors) {
		t.Fatal(got.Checks)
	}
	for i, c := range got.Checks {
		if c.Line != i || c.Anchor != anchors[i][0] || c.Far != anchors[i][1] || len(c.Calls) != anchors[i][2] {
			t.Error(c)
		}
	}
	if got.Checks[1].Calls[0] != 0 || got.Checks[4].Calls[0] != 11 || got.Checks[1].State == 0 {
		t.Error(got.Checks)
	}
}

// 22.1: Far is the greatest Look, and Anchors at the end of the document.
func TestChecks(t *testing.T) {
	x := tables(t, source)
	for s, want := range map[string][][2]int{
		"\n": {{0, 0}, {1, 2}}, "a\n": {{0, 0}, {2, 3}}, "aa\n": {{0, 0}, {3, 4}}, "x\xe2\xff\n": {{0, 0}, {4, 5}}, "aa\né": {{0, 0}, {3, 5}}, "\"\n\n": {{0, 0}, {2, 4}, {3, 4}}, "\"\n\n\"": {{0, 0}, {0, 0}, {0, 0}}, "\"\n\n\"\n": {{0, 0}, {0, 0}, {0, 0}, {5, 6}}, "\"a\nb": {{0, 0}, {3, 5}}, "\n\n\na": {{0, 0}, {1, 2}, {2, 3}, {3, 4}},
	} {
		got := Whole(x, []byte(s)).Checks
		if len(got) != len(want) {
			t.Errorf("%q: %v", s, got)
			continue
		}
		for i, c := range got {
			if c.Anchor != want[i][0] || c.Far != want[i][1] {
				t.Errorf("%q: %v, want %v", s, got, want)
				break
			}
		}
	}
}

// 22.1: Matches and Folds are in the order of the Returns.
func TestOrder(t *testing.T) {
	got := Whole(tables(t, source), []byte("oo\noccoc\nc"))
	if want := []api.Match{{Call: 3, Ret: 4}, {Call: 1, Ret: 5}, {Call: 6, Ret: 7}, {Call: 0, Ret: 9}}; !slices.Equal(got.Matches, want) {
		t.Error(got.Matches)
	}
	if want := []api.Fold{{First: 0, Last: 1, Call: 1, Ret: 5}, {First: 0, Last: 2, Call: 0, Ret: 9}}; !slices.Equal(got.Folds, want) {
		t.Error(got.Folds)
	}
}

// 22.1: Same, part by part.
func TestSame(t *testing.T) {
	x := tables(t, source)
	make0 := func() api.Out { return Whole(x, []byte("o\no\nccc")) }
	changes := []func(*api.Out){
		func(*api.Out) {}, func(o *api.Out) { o.Spans[0].Class++ }, func(o *api.Out) { o.Spans = o.Spans[1:] }, func(o *api.Out) { o.Matches[1].Ret++ }, func(o *api.Out) { o.Folds[1].Last++ }, func(o *api.Out) { o.Diags[0].Kind++ }, func(o *api.Out) { o.Diags = nil },
		func(o *api.Out) { o.Checks[1].Line++ }, func(o *api.Out) { o.Checks[1].Anchor++ }, func(o *api.Out) { o.Checks[1].Far++ }, func(o *api.Out) { o.Checks[1].State++ }, func(o *api.Out) { o.Checks[1].Calls[0]++ }, func(o *api.Out) { o.Checks[1].Calls = nil }, func(o *api.Out) { *o = api.Out{} },
	}
	for i, f := range changes {
		for k, g := range changes {
			a, b := make0(), make0()
			f(&a)
			g(&b)
			if Same(a, b) != (i == k) {
				t.Errorf("%d %d", i, k)
			}
		}
	}
	if !Same(api.Out{Spans: []api.Span{}, Checks: []api.Check{{Calls: []int{}}}}, api.Out{Checks: []api.Check{{}}}) {
		t.Error("nil and empty")
	}
}

// 22.2, 22.3: what is computed is what is defined.
func TestModel(t *testing.T) {
	r := rand.New(rand.NewSource(22))
	pieces := []string{"a", "a", "b", "aab", "o", "c", "o", "c", "<", ">", "\n", "\r\n", "\"", "\xff", "\xe2\x82", "é", "x"}
	rules := []string{"", "rule 12 _ ({a} {nl}*)*\n", "rule 13 {a} <o:({a}|<o:_:c>)*:c> _ ^ {o} _ {a}\n", "rule 14 free ^ {o} _ {nl} ^ {o} {aab}*\nrule 15 free ^ {o} ()\n"}
	for _, more := range rules {
		x := tables(t, source+more)
		g := x.Grammar()
		for i := 0; i < 300; i++ {
			s := ""
			for n := r.Intn(25); n > 0; n-- {
				s += pieces[r.Intn(len(pieces))]
			}
			got, want := Whole(x, []byte(s)), Model(g, []byte(s))
			end := 0
			for _, span := range got.Spans {
				if span.From != end || span.To <= end {
					t.Fatalf("%q: %v", s, got.Spans)
				}
				end = span.To
			}
			if end != len(s) || len(got.Checks) != strings.Count(s, "\n")+1 {
				t.Fatalf("%q: %v", s, got)
			}
			for k := range got.Checks {
				got.Checks[k].State = 0
			}
			if !Same(got, want) {
				t.Fatalf("%q:\n%v\n%v", s, got, want)
			}
		}
	}
}
