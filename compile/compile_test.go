package compile

import (
	"math"
	"slices"
	"strings"
	"testing"

	"gobo/api"
	"gobo/gram"
	"gobo/lexer"
	"gobo/parse"
)

const source = "tok a int 1 = /aa*/\ntok b int 2 = /b/\ntok o call 3 = /o/\ntok c ret 4 = /c/\nrule 10 free ^ {o} {a}\n"

// 21.1: tables of a text.
func TestSource(t *testing.T) {
	x, code, at := Source(source, 50)
	if x == nil || code != api.OK || at != 0 {
		t.Fatal(code, at)
	}
	g, _, _ := parse.Source(source)
	if !gram.Same(x.Grammar(), g) {
		t.Error("Grammar")
	}
	if got := lexer.All(x.Lexer(), []byte("aaob")); len(got) != 3 || got[0].To != 2 || got[2].Rule != 1 {
		t.Error(got)
	}
	m := x.Merged()
	if s := m.Int(m.Call(0, 2), 0); m.Rule(s) != 0 || m.Len() < 3 {
		t.Error("Merged")
	}
}

// 21.1: errors, the first one first.
func TestErrors(t *testing.T) {
	for _, x := range []struct {
		s              string
		most, code, at int
	}{
		{"", 5, api.ErrLimit, 0}, {"", -1, api.ErrLimit, 0}, {"tok a", 0, api.ErrParse, 5}, {source + "rule 99 _", -1, api.ErrLimit, len(source)}, {source, -1, api.ErrArg, 0}, {source, 0, api.ErrArg, 0}, {source, api.MaxStates + 1, api.ErrArg, 0}, {source, math.MinInt, api.ErrArg, 0}, {source, 1, api.ErrLarge, 0},
		{"tok a int 1 = /aaaaaaa/", 7, api.ErrLarge, 0}, {"tok a int 1 = /aaaaaaa/", 8, api.OK, 0}, {"tok a int 1 = /a/\nrule 1 {a} {a} {a}", 4, api.ErrLarge, 0}, {"tok a int 1 = /a/\nrule 1 {a} {a} {a}", 5, api.OK, 0}, {"tok a int 1 = //", 5, api.ErrEmpty, 0}, {"\ntok a int 1 = //", 0, api.ErrEmpty, 1},
	} {
		got, code, at := Source(x.s, x.most)
		if code != x.code || at != x.at || (got == nil) != (code != api.OK) {
			t.Errorf("%q with %d: %d at %d, want %d at %d", x.s, x.most, code, at, x.code, x.at)
		}
		g, code, _ := parse.Source(x.s)
		if code != api.OK {
			continue
		}
		if got, code := Grammar(g, x.most); code != x.code || (got == nil) != (code != api.OK) {
			t.Errorf("%q with %d: %d, want %d", x.s, x.most, code, x.code)
		}
	}
	g := api.Grammar{Tokens: []api.Token{{Name: "A"}}}
	if got, code := Grammar(g, -1); got != nil || code != api.ErrName {
		t.Error(code)
	}
}

// 21.1: no tables.
func TestNil(t *testing.T) {
	var x *Tables
	if !gram.Same(x.Grammar(), api.Grammar{}) || x.Lexer() != nil || x.Merged() != nil {
		t.Error("nil")
	}
}

// 21.1: neither the grammar that comes in is kept, nor is the one that goes out.
func TestOwn(t *testing.T) {
	spoil := func(g api.Grammar) {
		g.Tokens[0].Name = "x"
		g.Tokens[0].Re.L[0].Set[0].Lo = 'x'
		g.Rules[0].Steps[0].Calls[0] = "x"
		g.Rules[0].Steps[0].P.Names[0] = "x"
	}
	want, _, _ := parse.Source(source)
	g, _, _ := parse.Source(source)
	x, _ := Grammar(g, 50)
	spoil(g)
	spoil(x.Grammar())
	if !gram.Same(x.Grammar(), want) {
		t.Error("shared")
	}
}

// 21.1: kinds of tokens.
func TestKinds(t *testing.T) {
	g, _, _ := parse.Source(source)
	l := []api.Lex{{Rule: 0}, {Rule: 2}, {Rule: 3}, {Rule: -1}, {Rule: 4}, {Rule: 9}, {Rule: math.MinInt}, {Rule: math.MaxInt}}
	want := []api.Sym{{Tok: 0}, {Tok: 2, Kind: api.Call}, {Tok: 3, Kind: api.Return}, {Tok: -1}, {Tok: -1}, {Tok: -1}, {Tok: -1}, {Tok: -1}}
	if got := Kinds(g, l); !slices.Equal(got, want) {
		t.Error(got)
	}
	if len(Kinds(g, nil)) != 0 || Kinds(api.Grammar{}, l[:1])[0].Tok != -1 {
		t.Error("nothing")
	}
}

// 21.2: any cut of a text is tables or one error.
func TestAny(t *testing.T) {
	for i := range source {
		for _, s := range []string{source[:i], source[i:], strings.Replace(source, source[i:i+1], "", 1)} {
			got, code, at := Source(s, api.MaxStates)
			if (got == nil) == (code == api.OK) || at < 0 || at > len(s) || code == api.OK && at != 0 {
				t.Fatalf("%q: %d at %d", s, code, at)
			}
		}
	}
}
