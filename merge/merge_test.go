package merge

import (
	"math"
	"math/rand"
	"testing"

	"gobo/api"
	"gobo/det"
	"gobo/sample"
)

var (
	token, seq, alt, star, within = sample.Tok, sample.Then, sample.Either, sample.Many, sample.In
	at, grammar                   = sample.Step, sample.Grammar
	rule, free                    = sample.Rule, sample.Free
)

var (
	empty = api.Pat{Kind: api.PEmpty}
	well  = api.Pat{Kind: api.PWell}
)

const a, b, o, p, c, d = sample.A, sample.B, sample.O, sample.P, sample.C, sample.D

func must(t *testing.T, g api.Grammar) (*det.Det, *Merged) {
	t.Helper()
	x, code := det.Build(g, api.MaxStates)
	if code != api.OK {
		t.Fatal(code)
	}
	return x, Build(g, x)
}

// 19.1: the rule a|b, and one state.
func TestBuild(t *testing.T) {
	x, m := must(t, grammar(rule(at("", alt(token("a"), token("b"))))))
	if x.Len() != 4 || m.Len() != 3 || m.Int(0, a) != 2 || m.Int(0, b) != 2 || m.Int(0, -1) != 1 || m.Rule(2) != 0 || m.Rule(0) != -1 || m.Rule(1) != -1 {
		t.Error(m)
	}
	for s, want := range []int{0, 1, 2, 2} {
		if m.Of(s) != want {
			t.Errorf("Of(%d) = %d", s, m.Of(s))
		}
	}
	if _, m = must(t, grammar()); m.Len() != 1 || m.Of(0) != 0 || m.Int(0, a) != 0 || m.Call(0, p) != 0 || m.Bottom(0, d) != 0 || m.Ret(0, 0, o, c) != 0 {
		t.Error("one state")
	}
}

// 19.1: a symbol without a name may be all that tells states apart.
func TestNoName(t *testing.T) {
	g := grammar(rule(at("", alt(seq(token("a"), well), seq(token("b"), star(token("a", "b")))))))
	g.Tokens = g.Tokens[:2]
	x, m := must(t, g)
	if any0, named := m.Of(x.Int(0, a)), m.Of(x.Int(0, b)); any0 == named || m.Rule(any0) != 0 || m.Rule(named) != 0 || m.Int(any0, a) != any0 || m.Int(named, b) != named {
		t.Error(m)
	}
}

// 19.1: no automaton, no such class, no such token.
func TestWrong(t *testing.T) {
	g := grammar(free(at("o", well)))
	x, m := must(t, g)
	if Build(g, nil) != nil || Build(api.Grammar{}, nil) != nil {
		t.Error("nil")
	}
	Build(api.Grammar{}, x).Len() // unspecified, but it ends
	Build(grammar(rule(at("", empty))), x).Int(0, 3)
	wrong := []int{-1, m.Len(), math.MinInt, math.MaxInt}
	for _, s := range wrong {
		if m.Int(s, a) != -1 || m.Call(s, o) != -1 || m.Bottom(s, c) != -1 || m.Rule(s) != -1 || m.Ret(s, 0, o, c) != -1 || m.Ret(0, s, o, c) != -1 {
			t.Error("class", s)
		}
	}
	for _, s := range []int{-1, x.Len(), math.MinInt, math.MaxInt} {
		if m.Of(s) != -1 {
			t.Error("state", s)
		}
	}
	for _, k := range []int{-2, 6, math.MinInt, math.MaxInt} {
		if m.Int(0, k) != -1 || m.Call(0, k) != -1 || m.Bottom(0, k) != -1 || m.Ret(0, 0, k, c) != -1 || m.Ret(0, 0, o, k) != -1 {
			t.Error("token", k)
		}
	}
	if m.Int(0, o) != -1 || m.Call(0, -1) != -1 || m.Call(0, c) != -1 || m.Bottom(0, o) != -1 || m.Ret(0, 0, c, c) != -1 || m.Ret(0, 0, o, a) != -1 {
		t.Error("kind")
	}
	var no *Merged
	if no.Len() != 0 || no.Of(0) != -1 || no.Int(0, -1) != -1 || no.Call(0, o) != -1 || no.Bottom(0, c) != -1 || no.Ret(0, 0, o, c) != -1 || no.Rule(0) != -1 {
		t.Error("no Merged")
	}
}

// coarsest tells which states must be told apart, pair by pair, by 19.1.
func coarsest(g api.Grammar, x *det.Det) [][]bool {
	n := x.Len()
	apart := make([][]bool, n)
	for s := range apart {
		apart[s] = make([]bool, n)
		for q := range apart[s] {
			apart[s][q] = x.Rule(s) != x.Rule(q)
		}
	}
	for changed := true; changed; {
		changed = false
		for s := 0; s < n; s++ {
			for q := 0; q < n; q++ {
				if apart[s][q] {
					continue
				}
				not := apart[x.Int(s, -1)][x.Int(q, -1)]
				for _, t := range []int{a, b} {
					not = not || apart[x.Int(s, t)][x.Int(q, t)]
				}
				for _, t := range []int{o, p} {
					not = not || apart[x.Call(s, t)][x.Call(q, t)]
				}
				for _, t := range []int{c, d} {
					not = not || apart[x.Bottom(s, t)][x.Bottom(q, t)]
					for _, call := range []int{o, p} {
						for k := 0; k < n; k++ {
							not = not || apart[x.Ret(s, k, call, t)][x.Ret(q, k, call, t)] || apart[x.Ret(k, s, call, t)][x.Ret(k, q, call, t)]
						}
					}
				}
				if not {
					apart[s][q], changed = true, true
				}
			}
		}
	}
	return apart
}

// 19.1, 19.2: just what must be apart is apart, classes are in order, and they lead where their states lead.
func TestAny(t *testing.T) {
	r := rand.New(rand.NewSource(19))
	merged := 0
	for i := 0; i < 300; i++ {
		rules := sample.Rules(r.Intn, 2, 3)
		g := grammar(rules...)
		x, code := det.Build(g, 40)
		if code != api.OK {
			continue
		}
		m := Build(g, x)
		apart := coarsest(g, x)
		next := 0
		for s := 0; s < x.Len(); s++ {
			if m.Of(s) > next {
				t.Fatalf("%v: order", rules)
			}
			if m.Of(s) == next {
				next++
			} else {
				merged++
			}
			k := m.Of(s)
			if m.Rule(k) != x.Rule(s) || m.Int(k, -1) != m.Of(x.Int(s, -1)) || m.Int(k, b) != m.Of(x.Int(s, b)) || m.Call(k, o) != m.Of(x.Call(s, o)) || m.Bottom(k, d) != m.Of(x.Bottom(s, d)) {
				t.Fatalf("%v: from %d", rules, s)
			}
			for q := 0; q < x.Len(); q++ {
				if apart[s][q] != (m.Of(s) != m.Of(q)) {
					t.Fatalf("%v: %d and %d", rules, s, q)
				}
				if m.Ret(k, m.Of(q), p, c) != m.Of(x.Ret(s, q, p, c)) {
					t.Fatalf("%v: Ret from %d above %d", rules, s, q)
				}
			}
		}
		if m.Len() != next {
			t.Fatalf("%v: %d classes", rules, m.Len())
		}
	}
	if merged == 0 {
		t.Error("nothing was merged")
	}
}
