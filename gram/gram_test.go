package gram

import (
	"slices"
	"testing"

	"gobo/api"
	"gobo/sample"
)

var (
	one                 = sample.One
	tok, seq, alt, star = sample.Tok, sample.Then, sample.Either, sample.Many
)

func in(a api.Pat) api.Pat {
	return api.Pat{Kind: api.PIn, Names: []string{"o"}, Ends: []string{"c"}, L: []api.Pat{a}}
}

var (
	empty = api.Pat{Kind: api.PEmpty}
	well  = api.Pat{Kind: api.PWell}
)

// good is a valid grammar, made anew each time.
func good() api.Grammar {
	return api.Grammar{
		Tokens: []api.Token{{Name: "a", Re: one('a')}, {Name: "o", Kind: api.Call, Class: 1, Re: one('(')}, {Name: "c", Kind: api.Return, Class: api.MaxClass, Re: one(')')}},
		Rules: []api.Rule{
			{Class: 10, Steps: []api.Step{{P: seq(well, tok("a"))}, {Calls: []string{"o"}, P: in(star(alt(empty, tok("a"))))}}},
			{Class: 0, Free: true, Steps: []api.Step{{Calls: []string{"o"}, P: empty}}},
		},
	}
}

// step is good with the pattern p in its second rule.
func step(p api.Pat) func(*api.Grammar) {
	return func(g *api.Grammar) { g.Rules[1].Steps[0].P = p }
}

func deep(n int) api.Pat {
	p := empty
	for ; n > 1; n-- {
		p = star(p)
	}
	return p
}

func full(n int) api.Pat {
	if n == 1 {
		return empty
	}
	half := (n - 1) / 2
	if half%2 == 0 {
		return alt(full(half-1), full(half+1))
	}
	return alt(full(half), full(half))
}

// 11.1: names.
func TestName(t *testing.T) {
	for _, s := range []string{"a", "a1", "z9", "abcdefghijkl", "tokk", "a0", "to", "in", "call1"} {
		if !Name(s) {
			t.Error(s)
		}
	}
	for _, s := range []string{"", "1a", "A", "aB", "a_", "a b", "é", "aé", "abcdefghijklm", "tok", "rule", "int", "call", "ret", "free", "a\xff", "`", "{", "a/", "a:"} {
		if Name(s) {
			t.Error(s)
		}
	}
}

// 11.1: the first token of a name.
func TestFind(t *testing.T) {
	g := good()
	g.Tokens = append(g.Tokens, api.Token{Name: "a"})
	if Find(g, "c") != 2 || Find(g, "a") != 0 || Find(g, "x") != -1 || Find(g, "") != -1 || Find(api.Grammar{}, "a") != -1 {
		t.Error("Find")
	}
}

// 11.1: nodes and depth, and what may be empty.
func TestCount(t *testing.T) {
	if n, d := Count(alt(tok("a"), in(empty))); n != 4 || d != 3 {
		t.Error(n, d)
	}
	if n, d := Count(api.Pat{Kind: 99}); n != 1 || d != 1 {
		t.Error(n, d)
	}
	if n, d := Count(deep(70)); n != 70 || d != 70 {
		t.Error(n, d)
	}
	for i, x := range []struct {
		p    api.Pat
		want bool
	}{
		{empty, true}, {well, true}, {star(tok("a")), true}, {tok("a"), false}, {in(empty), false}, {seq(well, tok("a")), false}, {seq(tok("a"), well), false}, {seq(well, empty), true},
		{alt(tok("a"), well), true}, {alt(well, tok("a")), true}, {alt(tok("a"), tok("a")), false}, {api.Pat{}, false}, {api.Pat{Kind: 8}, false}, {api.Pat{Kind: api.PSeq}, false}, {api.Pat{Kind: api.PAlt}, false},
	} {
		if Empty(x.p) != x.want {
			t.Errorf("Empty %d", i)
		}
	}
}

// 11.2: each error, and where.
func TestCheck(t *testing.T) {
	if code, at := Check(good()); code != api.OK || at != 0 || !May(good()) {
		t.Fatal(code, at)
	}
	for i, x := range []struct {
		change   func(*api.Grammar)
		code, at int
	}{
		{func(g *api.Grammar) { g.Tokens = nil }, api.ErrLimit, 0},
		{func(g *api.Grammar) { g.Tokens = slices.Repeat(g.Tokens, 6)[:17] }, api.ErrLimit, 0},
		{func(g *api.Grammar) { g.Tokens[1].Name = "a" }, api.ErrName, 1},
		{func(g *api.Grammar) { g.Tokens[2].Name = "rule" }, api.ErrName, 2},
		{func(g *api.Grammar) { g.Tokens[2].Name, g.Tokens[2].Kind = "", 7 }, api.ErrName, 2},
		{func(g *api.Grammar) { g.Tokens[0].Kind = -1 }, api.ErrKind, 0},
		{func(g *api.Grammar) { g.Tokens[0].Kind, g.Tokens[0].Class = 3, -1 }, api.ErrKind, 0},
		{func(g *api.Grammar) { g.Tokens[1].Class = -1 }, api.ErrLimit, 1},
		{func(g *api.Grammar) { g.Tokens[1].Class = api.MaxClass + 1 }, api.ErrLimit, 1},
		{func(g *api.Grammar) { g.Tokens[1].Re = api.Re{Kind: api.RSet} }, api.ErrLimit, 1},
		{func(g *api.Grammar) { g.Tokens[1].Re = api.Re{Kind: api.REmpty} }, api.ErrEmpty, 1},
		{func(g *api.Grammar) { g.Tokens[2].Class, g.Tokens[2].Re = 99, api.Re{Kind: api.REmpty} }, api.ErrLimit, 2},
		{func(g *api.Grammar) { g.Rules = slices.Repeat(g.Rules, 5)[:9] }, api.ErrLimit, 3},
		{func(g *api.Grammar) { g.Rules[0].Class = -1 }, api.ErrLimit, 3},
		{func(g *api.Grammar) { g.Rules[1].Class = 32 }, api.ErrLimit, 4},
		{func(g *api.Grammar) { g.Rules[1].Steps = nil }, api.ErrLimit, 4},
		{func(g *api.Grammar) { g.Rules[1].Steps = slices.Repeat(g.Rules[1].Steps, 5) }, api.ErrLimit, 4},
		{func(g *api.Grammar) { g.Rules[0].Steps[0].Calls = []string{"o"} }, api.ErrKind, 3},
		{func(g *api.Grammar) { g.Rules[0].Steps[1].Calls = nil }, api.ErrKind, 3},
		{func(g *api.Grammar) { g.Rules[1].Steps[0].Calls = nil }, api.ErrKind, 4},
		{func(g *api.Grammar) { g.Rules[1].Steps[0].Calls[0] = "x" }, api.ErrName, 4},
		{func(g *api.Grammar) { g.Rules[1].Steps[0].Calls = []string{"o", "o"} }, api.ErrName, 4},
		{func(g *api.Grammar) { g.Rules[1].Steps[0].Calls = []string{"a", "x"} }, api.ErrKind, 4},
		{func(g *api.Grammar) { g.Rules[1].Steps[0].Calls[0] = "c" }, api.ErrKind, 4},
		{step(deep(api.MaxDeep + 1)), api.ErrLimit, 4}, {step(seq(deep(api.MaxDeep), tok("x"))), api.ErrLimit, 4}, {step(full(61)), api.ErrLimit, 4}, {step(api.Pat{Kind: 9, L: []api.Pat{full(61)}}), api.ErrLimit, 4},
		{step(api.Pat{}), api.ErrKind, 4}, {step(api.Pat{Kind: 8}), api.ErrKind, 4}, {step(tok()), api.ErrKind, 4}, {step(tok("x")), api.ErrName, 4}, {step(tok("a", "a")), api.ErrName, 4}, {step(tok("o")), api.ErrKind, 4},
		{step(api.Pat{Kind: api.PTok, Names: []string{"a"}, Ends: []string{"c"}}), api.ErrKind, 4}, {step(api.Pat{Kind: api.PTok, Names: []string{"a"}, L: []api.Pat{empty}}), api.ErrKind, 4},
		{step(api.Pat{Kind: api.PEmpty, Names: []string{"a"}}), api.ErrKind, 4}, {step(api.Pat{Kind: api.PWell, L: []api.Pat{empty}}), api.ErrKind, 4}, {step(api.Pat{Kind: api.PWell, Ends: []string{"c"}}), api.ErrKind, 4},
		{step(api.Pat{Kind: api.PSeq, Names: []string{"a"}, L: []api.Pat{empty, empty}}), api.ErrKind, 4}, {step(api.Pat{Kind: api.PAlt, Ends: []string{"c"}, L: []api.Pat{empty, empty}}), api.ErrKind, 4}, {step(api.Pat{Kind: api.PStar, Names: []string{"a"}, L: []api.Pat{empty}}), api.ErrKind, 4}, {step(api.Pat{Kind: api.PStar, Ends: []string{"c"}, L: []api.Pat{empty}}), api.ErrKind, 4},
		{step(api.Pat{Kind: api.PSeq, L: []api.Pat{empty}}), api.ErrKind, 4}, {step(api.Pat{Kind: api.PAlt, L: []api.Pat{empty, empty, empty}}), api.ErrKind, 4}, {step(api.Pat{Kind: api.PStar, L: []api.Pat{empty, empty}}), api.ErrKind, 4},
		{step(api.Pat{Kind: api.PIn, Names: []string{"o"}, L: []api.Pat{empty}}), api.ErrKind, 4}, {step(api.Pat{Kind: api.PIn, Ends: []string{"c"}, L: []api.Pat{empty}}), api.ErrKind, 4}, {step(api.Pat{Kind: api.PIn, Names: []string{"o"}, Ends: []string{"c"}}), api.ErrKind, 4},
		{step(api.Pat{Kind: api.PIn, Names: []string{"c"}, Ends: []string{"x"}, L: []api.Pat{empty}}), api.ErrKind, 4}, {step(api.Pat{Kind: api.PIn, Names: []string{"o"}, Ends: []string{"o"}, L: []api.Pat{empty}}), api.ErrKind, 4}, {step(api.Pat{Kind: api.PIn, Names: []string{"o"}, Ends: []string{"x"}, L: []api.Pat{{}}}), api.ErrName, 4},
		{step(seq(tok("o"), tok("x"))), api.ErrKind, 4}, {step(seq(tok("x"), tok("o"))), api.ErrName, 4}, {step(alt(star(tok("x")), tok())), api.ErrName, 4}, {step(in(tok("x"))), api.ErrName, 4},
		{func(g *api.Grammar) { g.Tokens[2].Class = 99; g.Rules[0].Class = 99 }, api.ErrLimit, 2},
		{func(g *api.Grammar) { g.Rules[0].Steps[0].P = tok("x"); g.Rules[0].Steps[1].Calls = nil }, api.ErrName, 3},
		{func(g *api.Grammar) { g.Rules[0].Steps[1].P = tok("x"); g.Rules[1].Class = 99 }, api.ErrName, 3},
	} {
		g := good()
		x.change(&g)
		if code, at := Check(g); code != x.code || at != x.at || May(g) {
			t.Errorf("%d: %d at %d, want %d at %d", i, code, at, x.code, x.at)
		}
	}
}

// 11.2, 11.3: the limits themselves are allowed.
func TestLimits(t *testing.T) {
	for i, change := range []func(*api.Grammar){
		step(deep(api.MaxDeep)), step(star(full(59))),
		func(g *api.Grammar) { g.Rules = slices.Repeat(g.Rules, 4) },
		func(g *api.Grammar) { g.Rules = nil },
		func(g *api.Grammar) { g.Tokens, g.Rules = g.Tokens[:1], nil },
		func(g *api.Grammar) { g.Rules[1].Steps = slices.Repeat(g.Rules[1].Steps, 4) },
		func(g *api.Grammar) {
			for n := 3; n < api.MaxTokens; n++ {
				g.Tokens = append(g.Tokens, api.Token{Name: "b" + string(rune('a'+n)), Re: one('b')})
			}
		},
	} {
		g := good()
		change(&g)
		if code, at := Check(g); code != api.OK || at != 0 {
			t.Errorf("%d: %d at %d", i, code, at)
		}
	}
	shared := alt(empty, empty)
	for i := 0; i < 200; i++ {
		shared = alt(shared, shared)
	}
	g := good()
	step(shared)(&g)
	if code, _ := Check(g); code != api.ErrLimit {
		t.Error("shared", code)
	}
}

// 11.2: Same, part by part.
func TestSame(t *testing.T) {
	changes := []func(*api.Grammar){
		func(*api.Grammar) {},
		func(g *api.Grammar) { g.Tokens[0].Name = "b" }, func(g *api.Grammar) { g.Tokens[0].Kind = 2 }, func(g *api.Grammar) { g.Tokens[0].Class = 2 }, func(g *api.Grammar) { g.Tokens[0].Re.Kind = 0 },
		func(g *api.Grammar) { g.Tokens = g.Tokens[:2] }, func(g *api.Grammar) { g.Rules = g.Rules[:1] }, func(g *api.Grammar) { g.Rules[0].Class = 3 }, func(g *api.Grammar) { g.Rules[0].Free = true },
		func(g *api.Grammar) { g.Rules[0].Steps = g.Rules[0].Steps[:1] }, func(g *api.Grammar) { g.Rules[0].Steps[1].Calls = nil }, func(g *api.Grammar) { g.Rules[0].Steps[0].P = seq(tok("a"), well) },
		step(tok("a")), step(tok("a", "b")), step(in(well)), step(api.Pat{Kind: api.PIn, Names: []string{"o"}, Ends: []string{"d"}, L: []api.Pat{well}}), step(seq(well, well)), step(alt(well, well)),
	}
	for i, a := range changes {
		for k, b := range changes {
			x, y := good(), good()
			a(&x)
			b(&y)
			if Same(x, y) != (i == k) {
				t.Errorf("%d %d", i, k)
			}
			if p, q := x.Rules[len(x.Rules)-1].Steps[0].P, y.Rules[len(y.Rules)-1].Steps[0].P; i > 11 && k > 11 && SamePat(p, q) != (i == k) {
				t.Errorf("SamePat %d %d", i, k)
			}
		}
	}
	if !Same(api.Grammar{Tokens: []api.Token{}}, api.Grammar{}) || !SamePat(api.Pat{L: []api.Pat{}, Names: []string{}}, api.Pat{}) {
		t.Error("nil and empty")
	}
}
