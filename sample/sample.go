// Package sample is expressions, patterns and grammars for the tests of the
// layers. What is made by chance asks n for each choice: a number below the one
// that it is given.
package sample

import "gobo/api"

// Set is the set of the ranges whose ends these are, two by two.
func Set(ends ...rune) api.Re {
	e := api.Re{Kind: api.RSet}
	for i := 0; i+1 < len(ends); i += 2 {
		e.Set = append(e.Set, api.Range{Lo: ends[i], Hi: ends[i+1]})
	}
	return e
}

// One is the set of r.
func One(r rune) api.Re { return Set(r, r) }

// Seq is a and b behind it.
func Seq(a, b api.Re) api.Re { return api.Re{Kind: api.RSeq, L: []api.Re{a, b}} }

// Alt is a or b.
func Alt(a, b api.Re) api.Re { return api.Re{Kind: api.RAlt, L: []api.Re{a, b}} }

// Star is any number of a.
func Star(a api.Re) api.Re { return api.Re{Kind: api.RStar, L: []api.Re{a}} }

// Re is an expression of a, b and é that is deep deep at most.
func Re(n func(int) int, deep int) api.Re {
	if deep == 0 || n(6) == 0 {
		leaves := []api.Re{{Kind: api.RNone}, {Kind: api.REmpty}, One('a'), One('b'), Set('a', 'b'), One('é')}
		return leaves[n(len(leaves))]
	}
	switch n(3) {
	case 0:
		return Seq(Re(n, deep-1), Re(n, deep-1))
	case 1:
		return Alt(Re(n, deep-1), Re(n, deep-1))
	}
	return Star(Re(n, deep-1))
}

// Tok is one token of these names.
func Tok(names ...string) api.Pat { return api.Pat{Kind: api.PTok, Names: names} }

// Then is a and b behind it.
func Then(a, b api.Pat) api.Pat { return api.Pat{Kind: api.PSeq, L: []api.Pat{a, b}} }

// Either is a or b.
func Either(a, b api.Pat) api.Pat { return api.Pat{Kind: api.PAlt, L: []api.Pat{a, b}} }

// Many is any number of a.
func Many(a api.Pat) api.Pat { return api.Pat{Kind: api.PStar, L: []api.Pat{a}} }

// In is a within the Call call and the Return ret.
func In(call, ret string, a api.Pat) api.Pat {
	return api.Pat{Kind: api.PIn, Names: []string{call}, Ends: []string{ret}, L: []api.Pat{a}}
}

// Letters is the tokens of Grammar: two that are Internal, two Calls, and two
// Returns.
const Letters = "abopcd"

// The tokens by their letters.
const (
	A = iota
	B
	O
	P
	C
	D
)

// Grammar is a grammar with a token for each of Letters, whose class is one
// more than its index.
func Grammar(rules ...api.Rule) api.Grammar {
	g := api.Grammar{Rules: rules}
	for i, c := range Letters {
		g.Tokens = append(g.Tokens, api.Token{Name: string(c), Kind: i / 2, Class: i + 1, Re: One(c)})
	}
	return g
}

// Sym is the token tok of Grammar as a symbol; -1 has no name.
func Sym(tok int) api.Sym {
	return api.Sym{Tok: tok, Kind: max(tok, 0) / 2}
}

// Step is a step behind one of the Calls.
func Step(calls string, p api.Pat) api.Step {
	var l []string
	for _, c := range calls {
		l = append(l, string(c))
	}
	return api.Step{Calls: l, P: p}
}

// Rule is a rule of these steps that is not Free.
func Rule(steps ...api.Step) api.Rule { return api.Rule{Steps: steps} }

// Free is a rule of these steps that is Free.
func Free(steps ...api.Step) api.Rule { return api.Rule{Free: true, Steps: steps} }

// Pat is a pattern that is deep deep at most.
func Pat(n func(int) int, deep int) api.Pat {
	if deep == 0 || n(6) == 0 {
		leaves := []api.Pat{{Kind: api.PEmpty}, {Kind: api.PWell}, Tok("a"), Tok("a", "b"), Tok("b")}
		return leaves[n(len(leaves))]
	}
	switch n(5) {
	case 0:
		return Then(Pat(n, deep-1), Pat(n, deep-1))
	case 1:
		return Either(Pat(n, deep-1), Pat(n, deep-1))
	case 2:
		return Many(Pat(n, deep-1))
	}
	return In("op"[n(2):][:1], "cd"[n(2):][:1], Pat(n, deep-1))
}

// Rules is one or two rules with up to most steps, whose patterns are deep deep
// at most.
func Rules(n func(int) int, most, deep int) []api.Rule {
	var l []api.Rule
	for range 1 + n(2) {
		r := api.Rule{Class: n(api.MaxClass + 1), Free: n(2) == 0}
		for range 1 + n(most) {
			r.Steps = append(r.Steps, Step([]string{"o", "p", "op"}[n(3)], Pat(n, deep)))
		}
		if !r.Free {
			r.Steps[0].Calls = nil
		}
		l = append(l, r)
	}
	return l
}
