package feed

import (
	"bytes"
	"math/rand"
	"slices"
	"testing"

	"gobo/api"
	"gobo/compile"
	"gobo/decode"
	"gobo/emit"
	"gobo/lexer"
	"gobo/lines"
)

const source = `tok a int 1 = /aa*/
tok aab int 2 = /xxy/
tok x int 2 = /x/
tok o call 3 = /o/
tok c ret 4 = /c/
tok nl int 5 = /\n/
tok long int 6 = /"[^"]*"/
rule 10 free ^ {o} {a}
rule 11 _ {x}
`

func tables(t *testing.T) *compile.Tables {
	t.Helper()
	x, code, at := compile.Source(source, api.MaxStates)
	if code != api.OK {
		t.Fatal(code, at)
	}
	return x
}

// 23.1: errors, and no Feed.
func TestErrors(t *testing.T) {
	if New(nil) != nil || New(new(compile.Tables)) != nil {
		t.Error("New")
	}
	var no *Feed
	if no.Feed(nil) != api.ErrState || no.Close() != api.ErrState || len(no.Carried()) != 0 || !emit.Same(no.Out(), api.Out{}) {
		t.Error("nil")
	}
	f := New(tables(t))
	if f.Feed(make([]byte, api.MaxDoc+1)) != api.ErrLimit || f.Feed([]byte("aa")) != api.OK || f.Feed(make([]byte, api.MaxDoc-1)) != api.ErrLimit || string(f.Carried()) != "aa" {
		t.Error("limit")
	}
	if f.Feed(bytes.Repeat([]byte("a"), api.MaxDoc-2)) != api.OK || f.Feed(nil) != api.OK || f.Feed([]byte("a")) != api.ErrLimit || len(f.Carried()) != api.MaxDoc {
		t.Error("as much as may be")
	}
	if f.Close() != api.OK || f.Close() != api.ErrState || f.Feed(nil) != api.ErrState || f.Feed(make([]byte, api.MaxDoc+1)) != api.ErrState || len(f.Out().Spans) != 1 {
		t.Error("closed")
	}
}

// 23.1: what waits.
func TestWaits(t *testing.T) {
	x := tables(t)
	f := New(x)
	if out := f.Out(); len(out.Spans) != 0 || len(out.Checks) != 1 || len(f.Carried()) != 0 {
		t.Error(out)
	}
	b := []byte("a")
	f.Feed(b)
	b[0] = 'o'
	if out := f.Out(); len(out.Spans) != 0 || len(out.Checks) != 1 || string(f.Carried()) != "a" {
		t.Error(out)
	}
	f.Feed([]byte("\n"))
	if out := f.Out(); len(out.Spans) != 1 || len(out.Checks) != 1 || string(f.Carried()) != "\n" {
		t.Error(out)
	}
	f.Feed([]byte("\xe2\x82"))
	if out := f.Out(); len(out.Spans) != 1 || string(f.Carried()) != "\n\xe2\x82" {
		t.Error(out)
	}
	f.Feed([]byte("o"))
	if out := f.Out(); len(out.Spans) != 3 || len(out.Checks) != 2 || out.Checks[1].Anchor != 2 || len(out.Diags) != 2 || string(f.Carried()) != "o" {
		t.Error(out, f.Carried())
	}
	f.Carried()[0] = 'x'
	f.Out().Spans[0].Tok = 9
	if f.Close() != api.OK || !emit.Same(f.Out(), emit.Whole(x, []byte("a\n\xe2\x82o"))) || len(f.Carried()) != 0 || len(f.Out().Diags) != 3 {
		t.Error(f.Out())
	}
	f.Out().Checks[0].Line = 9
	if f.Out().Checks[0].Line != 0 {
		t.Error("shared")
	}
	e := New(x)
	if e.Close() != api.OK || !emit.Same(e.Out(), emit.Whole(x, nil)) {
		t.Error("empty")
	}
}

// settled is the end of the last settled token of what was fed as b, by the definition.
func settled(x *compile.Tables, b []byte) int {
	items := decode.New().Feed(b)
	at, end := 0, 0
	for lexer.Sure(x.Lexer(), items, at) {
		lex, n := lexer.One(x.Lexer(), items, at)
		at, end = at+n, lex.To
	}
	return end
}

// part is what Out must be of b.
func part(x *compile.Tables, b []byte) api.Out {
	o, end := emit.Whole(x, b), settled(x, b)
	starts := lines.Starts(b)
	return api.Out{
		Spans:   slices.DeleteFunc(o.Spans, func(s api.Span) bool { return s.From >= end }),
		Matches: slices.DeleteFunc(o.Matches, func(m api.Match) bool { return m.Ret >= end }),
		Folds:   slices.DeleteFunc(o.Folds, func(f api.Fold) bool { return f.Ret >= end }),
		Diags:   slices.DeleteFunc(o.Diags, func(d api.Diag) bool { return d.From >= end || d.Kind == api.DCall }),
		Checks:  slices.DeleteFunc(o.Checks, func(c api.Check) bool { return starts[c.Line] > end }),
	}
}

// begins reports whether b begins with all of a.
func begins(a, b api.Out) bool {
	if len(a.Spans) > len(b.Spans) || len(a.Matches) > len(b.Matches) || len(a.Folds) > len(b.Folds) || len(a.Diags) > len(b.Diags) || len(a.Checks) > len(b.Checks) {
		return false
	}
	b.Spans, b.Matches, b.Folds, b.Diags, b.Checks = b.Spans[:len(a.Spans)], b.Matches[:len(a.Matches)], b.Folds[:len(a.Folds)], b.Diags[:len(a.Diags)], b.Checks[:len(a.Checks)]
	return emit.Same(a, b)
}

// 23.1, 23.2: however the input is divided, what is settled is told, never withdrawn, and in the end all is as if it had come at once.
func TestAny(t *testing.T) {
	x := tables(t)
	r := rand.New(rand.NewSource(23))
	pieces := []string{"a", "a", "x", "x", "xxy", "o", "c", "\n", "\"", "\xff", "\xe2\x82", "\xe2", "é", "z"}
	for i := 0; i < 1500; i++ {
		s := ""
		for n := r.Intn(20); n > 0; n-- {
			s += pieces[r.Intn(len(pieces))]
		}
		f, ask := New(x), r.Intn(3)
		var was api.Out
		for at := 0; at < len(s); {
			n := 1 + r.Intn(min(4, len(s)-at))
			if f.Feed([]byte(s[at:at+n])) != api.OK {
				t.Fatal("Feed")
			}
			at += n
			if end := settled(x, []byte(s[:at])); r.Intn(3) == 0 && string(f.Carried()) != s[end:at] {
				t.Fatalf("%q after %d: carried %q", s, at, f.Carried())
			}
			if ask == 0 || ask == 1 && r.Intn(3) == 0 {
				out := f.Out()
				if want := part(x, []byte(s[:at])); !emit.Same(out, want) || !begins(was, out) {
					t.Fatalf("%q after %d:\n%v\n%v", s, at, out, want)
				}
				if string(f.Carried()) != s[settled(x, []byte(s[:at])):at] {
					t.Fatalf("%q after %d: carried %q", s, at, f.Carried())
				}
				was = out
			}
		}
		f.Close()
		want := emit.Whole(x, []byte(s))
		if !emit.Same(f.Out(), want) || len(f.Carried()) != 0 {
			t.Fatalf("%q:\n%v\n%v", s, f.Out(), want)
		}
		want.Diags = slices.DeleteFunc(want.Diags, func(d api.Diag) bool { return d.Kind == api.DCall })
		if !begins(was, want) {
			t.Fatalf("%q: withdrawn", s)
		}
	}
}
