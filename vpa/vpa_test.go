package vpa

import (
	"math"
	"math/rand"
	"slices"
	"testing"

	"gobo/api"
	"gobo/gram"
	"gobo/pattern"
	"gobo/sample"
)

var (
	token, seq, alt, star, within = sample.Tok, sample.Then, sample.Either, sample.Many, sample.In
	at, grammar                   = sample.Step, sample.Grammar
	rule, freely                  = sample.Rule, sample.Free
)

var (
	empty = api.Pat{Kind: api.PEmpty}
	any0  = api.Pat{Kind: api.PWell}
)

const a, b, o, p, c, d = sample.A, sample.B, sample.O, sample.P, sample.C, sample.D

func must(t *testing.T, rules ...api.Rule) *Vpa {
	t.Helper()
	v, code := Build(grammar(rules...))
	if code != api.OK || v == nil {
		t.Fatal(code)
	}
	return v
}

func is(t *testing.T, what string, got []int, want ...int) {
	t.Helper()
	if !slices.Equal(got, want) {
		t.Errorf("%s: %v, want %v", what, got, want)
	}
}

func calls(t *testing.T, what string, got [][2]int, want ...[2]int) {
	t.Helper()
	if !slices.Equal(got, want) {
		t.Errorf("%s: %v, want %v", what, got, want)
	}
}

// 17.1: what is no grammar, and one without rules.
func TestBuild(t *testing.T) {
	for _, g := range []api.Grammar{{}, grammar(api.Rule{Class: 99}), grammar(rule(at("", token("x"))))} {
		want, _ := gram.Check(g)
		if v, code := Build(g); v != nil || code != want || code == api.OK {
			t.Error(code, want)
		}
	}
	v := must(t)
	if v.Len() != 1 || len(v.Start()) != 0 || v.Rule(0) != -1 {
		t.Error(v)
	}
	is(t, "a", v.Int(0, a), 0)
	is(t, "no name", v.Int(0, -1), 0)
	calls(t, "o", v.Call(0, o), [2]int{0, 0})
	is(t, "c", v.Ret(0, 0, c), 0)
	is(t, "c at the bottom", v.Bottom(0, c))
}

// 17.2: the example with two steps.
func TestSteps(t *testing.T) {
	v := must(t, rule(at("", any0), at("o", empty)))
	if v.Len() != 4 || v.Rule(0) != -1 || v.Rule(1) != -1 || v.Rule(2) != -1 || v.Rule(3) != 0 {
		t.Error(v.Len())
	}
	is(t, "start", v.Start(), 1)
	calls(t, "o from 1", v.Call(1, o), [2]int{0, 2}, [2]int{3, -1})
	calls(t, "o from 2", v.Call(2, o), [2]int{0, 2}, [2]int{3, -1})
	calls(t, "p from 1", v.Call(1, p), [2]int{0, 2})
	calls(t, "o from 3", v.Call(3, o))
	is(t, "a", v.Int(1, a), 2)
	is(t, "no name", v.Int(2, -1), 2)
	is(t, "a from 3", v.Int(3, a))
	is(t, "back to the balanced", v.Ret(0, 2, d), 2)
	is(t, "not from elsewhere", v.Ret(1, 2, d))
	is(t, "a pending Call has no Return", v.Ret(3, -1, c))
	is(t, "a beginning is no symbol", v.Ret(3, 3, c))
	is(t, "bottom", v.Bottom(1, c))
	v.Start()[0] = 9
	is(t, "not shared", v.Start(), 1)
}

// 17.1, 17.2: numbers of places, a free rule, and what is inside of a PIn.
func TestPlaces(t *testing.T) {
	// 1 free, 2 beginning, 3 a, 4 PIn o c, 5 its beginning, 6 b, 7 PIn p d, 8 its beginning, 9 a b
	v := must(t, freely(at("op", seq(token("a"), within("o", "c", seq(star(token("b")), within("p", "d", empty)))))), rule(at("", alt(token("a", "b"), any0))))
	if v.Len() != 12 {
		t.Fatal(v.Len())
	}
	is(t, "start", v.Start(), 1, 9)
	is(t, "free a", v.Int(1, a), 1)
	is(t, "free c", v.Bottom(1, c), 1)
	is(t, "free c with a Call", v.Ret(1, 1, c), 1)
	is(t, "not the free place's", v.Ret(2, 1, c))
	calls(t, "free o", v.Call(1, o), [2]int{1, 1}, [2]int{2, -1})
	calls(t, "free p", v.Call(1, p), [2]int{1, 1}, [2]int{2, -1})
	is(t, "a", v.Int(2, a), 3)
	is(t, "b", v.Int(2, b))
	is(t, "no name", v.Int(2, -1))
	calls(t, "o too early", v.Call(2, o))
	calls(t, "o", v.Call(3, o), [2]int{5, 4})
	calls(t, "p", v.Call(3, p))
	is(t, "b inside", v.Int(5, b), 6)
	is(t, "b again", v.Int(6, b), 6)
	calls(t, "p inside", v.Call(6, p), [2]int{8, 7})
	is(t, "d", v.Ret(8, 7, d), 7)
	is(t, "c", v.Ret(8, 7, c))
	is(t, "outer", v.Ret(7, 4, c), 4)
	is(t, "too early", v.Ret(6, 4, c))
	is(t, "from another pattern", v.Ret(8, 4, c))
	for place, want := range []int{-1, -1, -1, -1, 0, -1, -1, -1, -1, 1, 1, 1} {
		if v.Rule(place) != want {
			t.Errorf("Rule(%d) = %d", place, v.Rule(place))
		}
	}
	is(t, "two ways", v.Int(9, b), 10, 11)
	is(t, "one way", v.Int(9, -1), 11)
	is(t, "goes on", v.Int(11, b), 11)
	is(t, "ends", v.Int(10, b))
}

// 17.2: a wide place comes first, and a pair is there once.
func TestOrder(t *testing.T) {
	v := must(t, rule(at("", seq(within("o", "c", empty), any0))), rule(at("", alt(seq(any0, within("o", "d", any0)), within("o", "c", any0))), at("o", any0)))
	// 5 beginning, 6 any, 7 PIn, 8 beginning, 9 any, 10 PIn, 11 beginning, 12 any, 13 beginning, 14 any
	calls(t, "order", v.Call(5, o), [2]int{0, 6}, [2]int{8, 7}, [2]int{11, 10})
	calls(t, "step", v.Call(7, o), [2]int{13, -1})
	is(t, "the last one ends", []int{v.Rule(1), v.Rule(2), v.Rule(4), v.Rule(7), v.Rule(13), v.Rule(14), v.Rule(9)}, -1, 0, 0, -1, 1, 1, -1)
}

// 17.2: what is no place, or no token of that kind.
func TestWrong(t *testing.T) {
	v := must(t, freely(at("o", any0)))
	for _, x := range []int{-2, o, c, 6, math.MaxInt, math.MinInt} {
		is(t, "Int", v.Int(0, x))
	}
	for _, x := range []int{-1, a, c, 6, math.MaxInt, math.MinInt} {
		calls(t, "Call", v.Call(0, x))
	}
	for _, x := range []int{-1, a, o, 6, math.MaxInt, math.MinInt} {
		is(t, "Ret", v.Ret(0, 0, x))
		is(t, "Bottom", v.Bottom(1, x))
	}
	var no *Vpa
	for _, x := range []int{-1, 4, math.MaxInt, math.MinInt} {
		is(t, "place", v.Int(x, a))
		is(t, "place", v.Int(x, -1))
		calls(t, "place", v.Call(x, o))
		is(t, "place", v.Ret(x, 0, c))
		is(t, "symbol", v.Ret(0, x, c))
		is(t, "both", v.Ret(x, x, c))
		is(t, "place", v.Bottom(x, c))
		if v.Rule(x) != -1 || no.Rule(x) != -1 {
			t.Error("Rule")
		}
	}
	if no.Len() != 0 || len(no.Start()) != 0 || len(no.Int(0, a)) != 0 || len(no.Call(0, o)) != 0 || len(no.Ret(0, 0, c)) != 0 || len(no.Bottom(0, c)) != 0 || no.Rule(0) != -1 {
		t.Error("nil")
	}
}

// way is a place with the symbols on the stack.
type way struct {
	place int
	stack string
}

// follow is all ways behind ways and a symbol.
func follow(v *Vpa, ways map[way]int, s api.Sym) map[way]int {
	out := map[way]int{}
	for w := range ways {
		n := len(w.stack)
		switch {
		case s.Kind == api.Internal:
			for _, x := range v.Int(w.place, s.Tok) {
				out[way{x, w.stack}] = 1
			}
		case s.Kind == api.Call:
			for _, x := range v.Call(w.place, s.Tok) {
				out[way{x[0], w.stack + string(rune(x[1]+1))}] = 1
			}
		case n == 0:
			for _, x := range v.Bottom(w.place, s.Tok) {
				out[way{x, ""}] = 1
			}
		default:
			for _, x := range v.Ret(w.place, int(w.stack[n-1])-1, s.Tok) {
				out[way{x, w.stack[:n-1]}] = 1
			}
		}
	}
	return out
}

// 17.3: a word matches a rule exactly if there is a way to a place of that Rule.
func TestAny(t *testing.T) {
	r := rand.New(rand.NewSource(17))
	for i := 0; i < 3000; i++ {
		rules := sample.Rules(r.Intn, 3, 3)
		g, v := grammar(rules...), must(t, rules...)
		ways := map[way]int{}
		for _, s := range v.Start() {
			ways[way{s, ""}] = 1
		}
		var l []api.Sym
		for k := 0; ; k++ {
			found := map[int]bool{}
			for w := range ways {
				found[v.Rule(w.place)] = true
			}
			for n := range rules {
				if pattern.Rule(g, rules[n], l) != found[n] {
					t.Fatalf("%v: %v: rule %d: %v", g.Rules, l, n, found[n])
				}
			}
			if k == 8 {
				break
			}
			s := api.Sym{Tok: r.Intn(7) - 1}
			if s.Tok >= 0 {
				s.Kind = s.Tok / 2
			}
			l, ways = append(l, s), follow(v, ways, s)
		}
	}
}
