package pattern

import (
	"math/rand"
	"slices"
	"testing"

	"gobo/api"
	"gobo/forest"
	"gobo/sample"
)

var (
	tok, seq, alt, star, in = sample.Tok, sample.Then, sample.Either, sample.Many, sample.In
	at, grammar             = sample.Step, sample.Grammar
)

var (
	empty = api.Pat{Kind: api.PEmpty}
	well  = api.Pat{Kind: api.PWell}
)

// syms is a symbol for each letter, and ? for one without a name.
func syms(s string) []api.Sym {
	var l []api.Sym
	for _, c := range s {
		sym := api.Sym{Tok: -1}
		for i, x := range sample.Letters {
			if x == c {
				sym = api.Sym{Tok: i, Kind: i / 2}
			}
		}
		l = append(l, sym)
	}
	return l
}

// 16.1: kind by kind.
func TestIs(t *testing.T) {
	for i, x := range []struct {
		p    api.Pat
		s    string
		want bool
	}{
		{empty, "", true}, {empty, "a", false}, {tok("a"), "a", true}, {tok("a"), "b", false}, {tok("a", "b"), "b", true}, {tok("a"), "", false}, {tok("a"), "aa", false}, {tok("a"), "?", false},
		{well, "", true}, {well, "aoapcd?", true}, {well, "o", false}, {well, "c", false}, {well, "co", false}, {seq(tok("a"), tok("b")), "ab", true}, {seq(tok("a"), tok("b")), "a", false}, {seq(well, tok("a")), "ocba", true}, {seq(well, well), "", true},
		{alt(tok("a"), tok("b")), "b", true}, {alt(tok("a"), empty), "", true}, {star(tok("a")), "", true}, {star(tok("a")), "aaa", true}, {star(tok("a")), "aba", false}, {star(in("o", "c", empty)), "ococ", true}, {star(star(alt(tok("a"), in("p", "d", tok("b"))))), "apbda", true},
		{in("o", "c", well), "oac", true}, {in("o", "c", well), "ococ", false}, {in("o", "c", empty), "oac", false}, {in("o", "c", empty), "od", false}, {in("o", "c", empty), "pc", false}, {in("o", "c", in("p", "d", tok("a"))), "opadc", true}, {in("o", "c", in("p", "d", tok("a"))), "opacc", false}, {in("o", "c", tok("a")), "a", false}, {in("o", "c", tok("a")), "oc", false},
		{seq(tok("a"), tok("o")), "ao", false}, {tok("o"), "o", false}, {api.Pat{}, "", false}, {seq(well, tok("x")), "a", false},
	} {
		if got := Is(grammar(), x.p, syms(x.s)); got != x.want {
			t.Errorf("%d: Is(%q) = %v", i, x.s, got)
		}
	}
}

// 16.1, 16.2: arguments that are not what they must be.
func TestWrong(t *testing.T) {
	g := grammar()
	free := api.Rule{Free: true, Steps: []api.Step{at("o", well)}}
	for i, l := range [][]api.Sym{{{Tok: 6}}, {{Tok: -2}}, {{Tok: 0, Kind: api.Call}}, {{Tok: -1, Kind: api.Call}}, {{Tok: 2}}, {{Tok: 0, Kind: 5}}, {{Tok: 0}, {Tok: 99}}} {
		if Is(g, well, l) || Rule(g, free, append(syms("o"), l...)) || Class(g, l) != -1 {
			t.Errorf("%d", i)
		}
	}
	for i, r := range []api.Rule{{}, {Class: 99, Steps: []api.Step{{P: well}}}, {Steps: []api.Step{at("o", well)}}, {Free: true, Steps: []api.Step{{P: well}}}, {Steps: []api.Step{{P: tok("x")}}}} {
		if Rule(g, r, nil) || Rule(g, r, syms("o")) {
			t.Errorf("%d", i)
		}
		if h := grammar(r); Class(h, nil) != -1 || Is(h, well, nil) || Rule(h, free, syms("o")) {
			t.Errorf("%d: grammar", i)
		}
	}
	if Is(api.Grammar{}, well, nil) || Class(api.Grammar{}, nil) != -1 || Rule(api.Grammar{}, free, syms("o")) {
		t.Error("no grammar")
	}
}

// 16.2: rules, free and not.
func TestRule(t *testing.T) {
	a := tok("a")
	steps := func(l ...api.Step) []api.Step { return l }
	for i, x := range []struct {
		r    api.Rule
		s    string
		want bool
	}{
		{api.Rule{Free: true, Steps: steps(at("o", empty))}, "o", true}, {api.Rule{Free: true, Steps: steps(at("o", empty))}, "ccapo", true}, {api.Rule{Free: true, Steps: steps(at("o", empty))}, "oa", false}, {api.Rule{Free: true, Steps: steps(at("o", empty))}, "op", false}, {api.Rule{Free: true, Steps: steps(at("o", empty))}, "", false},
		{api.Rule{Free: true, Steps: steps(at("op", a))}, "pocpa", true}, {api.Rule{Free: true, Steps: steps(at("o", a))}, "oca", false}, {api.Rule{Free: true, Steps: steps(at("o", a))}, "opca", false}, {api.Rule{Free: true, Steps: steps(at("o", seq(well, a)))}, "opca", true},
		{api.Rule{Free: true, Steps: steps(at("o", a), at("p", well))}, "oapbocb", true}, {api.Rule{Free: true, Steps: steps(at("o", a), at("p", well))}, "oaopb", false}, {api.Rule{Free: true, Steps: steps(at("o", a), at("p", well))}, "p", false},
		{api.Rule{Steps: steps(api.Step{P: seq(well, a)})}, "boca", true}, {api.Rule{Steps: steps(api.Step{P: seq(well, a)})}, "oa", false}, {api.Rule{Steps: steps(api.Step{P: seq(well, a)})}, "ca", false}, {api.Rule{Steps: steps(api.Step{P: well})}, "", true}, {api.Rule{Steps: steps(api.Step{P: well})}, "co", false},
		{api.Rule{Steps: steps(api.Step{P: a}, at("o", empty))}, "ao", true}, {api.Rule{Steps: steps(api.Step{P: a}, at("o", empty))}, "o", false}, {api.Rule{Steps: steps(api.Step{P: a}, at("o", empty))}, "ap", false}, {api.Rule{Steps: steps(api.Step{P: a}, at("o", empty))}, "aoc", false}, {api.Rule{Steps: steps(api.Step{P: well}, at("o", well), at("o", well))}, "aoopcbo", false}, {api.Rule{Steps: steps(api.Step{P: well}, at("o", well), at("o", well))}, "aoopcb", true},
	} {
		if got := Rule(grammar(), x.r, syms(x.s)); got != x.want {
			t.Errorf("%d: Rule(%q) = %v", i, x.s, got)
		}
	}
}

// 16.2, 16.3: the first rule that matches, or the token.
func TestClass(t *testing.T) {
	g := grammar(api.Rule{Class: 10, Steps: []api.Step{{P: seq(well, tok("a"))}}}, api.Rule{Class: 0, Free: true, Steps: []api.Step{at("op", empty)}}, api.Rule{Class: 12, Free: true, Steps: []api.Step{at("o", well)}})
	for s, want := range map[string]int{"": 0, "ba": 10, "a": 10, "ab": 2, "o": 0, "p": 0, "oa": 12, "pa": 1, "oc": 5, "oca": 10, "c": 5, "ca": 1, "?": 0, "p?": 0, "o?": 12, "opc": 12} {
		if got := Class(g, syms(s)); got != want {
			t.Errorf("Class(%q) = %d, want %d", s, got, want)
		}
	}
}

// 16.2: the empty word has no last symbol, even if a rule matches it.
func TestClassOfNothing(t *testing.T) {
	if got := Class(grammar(api.Rule{Class: 10, Steps: []api.Step{{P: well}}}), nil); got != 0 {
		t.Error(got)
	}
}

// naive is 16.1 by its definition, of the sample.Letters of a word.
func naive(p api.Pat, l []api.Sym) bool {
	if !forest.Well(l) {
		return false
	}
	name := func(s api.Sym, names []string) bool {
		return s.Tok >= 0 && slices.Contains(names, sample.Letters[s.Tok:s.Tok+1])
	}
	switch p.Kind {
	case api.PEmpty:
		return len(l) == 0
	case api.PWell:
		return true
	case api.PTok:
		return len(l) == 1 && l[0].Kind == api.Internal && name(l[0], p.Names)
	case api.PAlt:
		return naive(p.L[0], l) || naive(p.L[1], l)
	case api.PIn:
		n := len(l) - 1
		return n > 0 && forest.Pairs(l)[0] == n && name(l[0], p.Names) && name(l[n], p.Ends) && naive(p.L[0], l[1:n])
	case api.PStar:
		if len(l) == 0 {
			return true
		}
	}
	for i := 0; i <= len(l); i++ {
		if p.Kind == api.PSeq && naive(p.L[0], l[:i]) && naive(p.L[1], l[i:]) || p.Kind == api.PStar && i > 0 && naive(p.L[0], l[:i]) && naive(p, l[i:]) {
			return true
		}
	}
	return false
}

// naiveRule is 16.2 by its definition: it tries all Calls.
func naiveRule(r api.Rule, l []api.Sym) bool {
	open := forest.Open(l)
	var from func(at, step int) bool
	from = func(at, step int) bool {
		for end := at; end <= len(l); end++ {
			if !naive(r.Steps[step].P, l[at:end]) {
				continue
			}
			if step == len(r.Steps)-1 {
				if end == len(l) {
					return true
				}
				continue
			}
			if slices.Contains(open, end) && slices.Contains(r.Steps[step+1].Calls, sample.Letters[l[end].Tok:l[end].Tok+1]) && from(end+1, step+1) {
				return true
			}
		}
		return false
	}
	if !r.Free {
		return from(0, 0)
	}
	return slices.ContainsFunc(open, func(c int) bool {
		return slices.Contains(r.Steps[0].Calls, sample.Letters[l[c].Tok:l[c].Tok+1]) && from(c+1, 0)
	})
}

// 16.1, 16.2: as defined.
func TestAny(t *testing.T) {
	r := rand.New(rand.NewSource(16))
	for i := 0; i < 20000; i++ {
		s := ""
		for n := r.Intn(8); n > 0; n-- {
			s += "aabooppccdd?"[r.Intn(12):][:1]
		}
		l := syms(s)
		p := sample.Pat(r.Intn, 4)
		if Is(grammar(), p, l) != naive(p, l) {
			t.Fatalf("Is(%v, %q)", p, s)
		}
		rule := api.Rule{Free: r.Intn(2) == 0}
		for n := 1 + r.Intn(3); n > 0; n-- {
			rule.Steps = append(rule.Steps, at([]string{"o", "p", "op"}[r.Intn(3)], sample.Pat(r.Intn, 2)))
		}
		if !rule.Free {
			rule.Steps[0].Calls = nil
		}
		if Rule(grammar(), rule, l) != naiveRule(rule, l) {
			t.Fatalf("Rule(%v, %q)", rule, s)
		}
	}
}
