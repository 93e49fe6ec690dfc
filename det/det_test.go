package det

import (
	"math"
	"math/rand"
	"slices"
	"testing"

	"gobo/api"
	"gobo/gram"
	"gobo/pattern"
	"gobo/sample"
	"gobo/vpa"
)

var (
	token, seq, alt, star, within = sample.Tok, sample.Then, sample.Either, sample.Many, sample.In
	at, grammar                   = sample.Step, sample.Grammar
	rule, free                    = sample.Rule, sample.Free
)

var (
	empty = api.Pat{Kind: api.PEmpty}
	well  = api.Pat{Kind: api.PWell}
)

const a, b, o, p, c, d = sample.A, sample.B, sample.O, sample.P, sample.C, sample.D

func must(t *testing.T, rules ...api.Rule) *Det {
	t.Helper()
	x, code := Build(grammar(rules...), api.MaxStates)
	if code != api.OK || x == nil {
		t.Fatal(code)
	}
	return x
}

// 18.2: errors, the first one first.
func TestErrors(t *testing.T) {
	good := grammar(rule(at("", seq(token("a"), token("b")))))
	bad := grammar(api.Rule{Class: 99})
	for i, x := range []struct {
		g          api.Grammar
		most, want int
	}{
		{bad, 0, api.ErrLimit}, {api.Grammar{}, 5, api.ErrLimit}, {good, 0, api.ErrArg}, {good, -1, api.ErrArg}, {good, api.MaxStates + 1, api.ErrArg}, {good, math.MinInt, api.ErrArg}, {good, math.MaxInt, api.ErrArg},
		{good, 1, api.ErrLarge}, {good, 3, api.ErrLarge}, {good, 4, api.OK}, {grammar(), 1, api.OK},
	} {
		if got, code := Build(x.g, x.most); code != x.want || (got == nil) != (code != api.OK) {
			t.Errorf("%d: %d, want %d", i, code, x.want)
		}
	}
}

// 18.2: a grammar without rules, and the rule a b.
func TestSmall(t *testing.T) {
	x := must(t)
	if x.Len() != 1 || len(x.Pairs(0)) != 0 || x.Rule(0) != -1 || x.Int(0, -1) != 0 || x.Int(0, b) != 0 || x.Call(0, o) != 0 || x.Bottom(0, c) != 0 || x.Ret(0, 0, p, d) != 0 {
		t.Error(x)
	}
	x = must(t, rule(at("", seq(token("a"), token("b")))))
	if x.Len() != 4 || x.Int(0, a) != 2 || x.Int(0, -1) != 1 || x.Rule(3) != 0 || x.Rule(2) != -1 || x.Rule(0) != -1 || x.Int(2, b) != 3 || x.Call(0, o) != 1 {
		t.Error(x.Len())
	}
	if !slices.Equal(x.Pairs(2), [][2]int{{1, 2}}) || !slices.Equal(x.Pairs(0), [][2]int{{1, 1}}) || len(x.Pairs(1)) != 0 || len(x.Pairs(4)) != 0 || len(x.Pairs(-1)) != 0 {
		t.Error(x.Pairs(2))
	}
	x.Pairs(2)[0][0] = 9
	if x.Pairs(2)[0][0] != 1 {
		t.Error("shared")
	}
}

// 18.2: no such state, no such token of that kind, no automaton.
func TestWrong(t *testing.T) {
	x := must(t, free(at("o", well)))
	wrong := []int{-1, x.Len(), math.MinInt, math.MaxInt}
	for _, s := range wrong {
		if x.Int(s, a) != -1 || x.Int(s, -1) != -1 || x.Call(s, o) != -1 || x.Bottom(s, c) != -1 || x.Rule(s) != -1 || x.Ret(s, 0, o, c) != -1 || x.Ret(0, s, o, c) != -1 || len(x.Pairs(s)) != 0 {
			t.Error("state", s)
		}
	}
	for _, k := range append([]int{-2, 6}, wrong...) {
		if k == x.Len() {
			continue
		}
		if k != -1 && x.Int(0, k) != -1 || x.Call(0, k) != -1 || x.Bottom(0, k) != -1 || x.Ret(0, 0, k, c) != -1 || x.Ret(0, 0, o, k) != -1 {
			t.Error("token", k)
		}
	}
	if x.Int(0, o) != -1 || x.Int(0, c) != -1 || x.Call(0, a) != -1 || x.Call(0, c) != -1 || x.Bottom(0, a) != -1 || x.Bottom(0, o) != -1 || x.Ret(0, 0, c, c) != -1 || x.Ret(0, 0, o, o) != -1 || x.Ret(0, 0, a, c) != -1 {
		t.Error("kind")
	}
	var no *Det
	if no.Len() != 0 || len(no.Pairs(0)) != 0 || no.Int(0, -1) != -1 || no.Call(0, o) != -1 || no.Bottom(0, c) != -1 || no.Ret(0, 0, o, c) != -1 || no.Rule(0) != -1 {
		t.Error("nil")
	}
}

// naive is 18.1 and 18.2, word for word.
type naive struct {
	g      api.Grammar
	v      *vpa.Vpa
	states []map[[2]int]int
}

func (n *naive) find(set map[[2]int]int) int {
	for i, s := range n.states {
		same := len(s) == len(set)
		for k := range set {
			same = same && s[k] == 1
		}
		if same {
			return i
		}
	}
	n.states = append(n.states, set)
	return len(n.states) - 1
}

func (n *naive) step(s, t int) int {
	set := map[[2]int]int{}
	for x := range n.states[s] {
		var l []int
		switch {
		case t < 0 || n.g.Tokens[t].Kind == api.Internal:
			l = n.v.Int(x[1], t)
		case n.g.Tokens[t].Kind == api.Return:
			l = n.v.Bottom(x[1], t)
		default:
			for _, y := range n.v.Call(x[1], t) {
				set[[2]int{y[0], y[0]}] = 1
			}
		}
		for _, y := range l {
			set[[2]int{x[0], y}] = 1
		}
	}
	return n.find(set)
}

func (n *naive) ret(s, below, c, t int) int {
	set := map[[2]int]int{}
	for ap := range n.states[below] {
		for _, xy := range n.v.Call(ap[1], c) {
			for xb := range n.states[s] {
				if xb[0] == xy[0] {
					for _, z := range n.v.Ret(xb[1], xy[1], t) {
						set[[2]int{ap[0], z}] = 1
					}
				}
			}
		}
	}
	return n.find(set)
}

// all compares a Det with it, in the order of 18.2.
func (n *naive) all(t *testing.T, x *Det) {
	eq := func(got, want int) {
		if got != want {
			t.Fatalf("%v: %d, want %d", n.g.Rules, got, want)
		}
	}
	set := map[[2]int]int{}
	for _, s := range n.v.Start() {
		set[[2]int{s, s}] = 1
	}
	n.find(set)
	for i := 0; i < len(n.states); i++ {
		eq(x.Int(i, -1), n.step(i, -1))
		for k, tok := range n.g.Tokens {
			eq([]int{x.Int(i, k), x.Call(i, k), x.Bottom(i, k)}[tok.Kind], n.step(i, k))
		}
		for j := 0; j <= i; j++ {
			for _, call := range []int{o, p} {
				for _, ret := range []int{c, d} {
					eq(x.Ret(i, j, call, ret), n.ret(i, j, call, ret))
					if j < i {
						eq(x.Ret(j, i, call, ret), n.ret(j, i, call, ret))
					}
				}
			}
		}
		if l := x.Pairs(i); !slices.IsSortedFunc(l, func(a, b [2]int) int { return slices.Compare(a[:], b[:]) }) || n.find(func() map[[2]int]int {
			m := map[[2]int]int{}
			for _, pair := range l {
				m[pair] = 1
			}
			return m
		}()) != i || len(l) != len(n.states[i]) {
			t.Fatalf("%v: pairs of %d", n.g.Rules, i)
		}
	}
	eq(x.Len(), len(n.states))
}

// 18.1, 18.2: states, their numbers and what leads where.
func TestNumbers(t *testing.T) {
	r := rand.New(rand.NewSource(18))
	for i := 0; i < 400; i++ {
		g := grammar(sample.Rules(r.Intn, 2, 2)...)
		x, code := Build(g, 30)
		if code == api.ErrLarge {
			continue
		}
		v, _ := vpa.Build(g)
		(&naive{g: g, v: v}).all(t, x)
		if _, code := Build(g, x.Len()); code != api.OK {
			t.Fatal("most is not the limit")
		}
		if _, code := Build(g, x.Len()-1); x.Len() > 1 && code != api.ErrLarge {
			t.Fatal("more than most")
		}
	}
}

// 18.3: each token is one step, with one state for each open Call; the Rule is the first one that the word matches.
func TestAny(t *testing.T) {
	r := rand.New(rand.NewSource(180))
	for i := 0; i < 600; i++ {
		g := grammar(sample.Rules(r.Intn, 2, 2)...)
		if !gram.May(g) {
			t.Fatal("grammar")
		}
		x, code := Build(g, api.MaxStates)
		if code != api.OK {
			continue
		}
		for k := 0; k < 10; k++ {
			var l []api.Sym
			var stack [][2]int
			s := 0
			for n := 0; n < 9; n++ {
				want := slices.IndexFunc(g.Rules, func(y api.Rule) bool { return pattern.Rule(g, y, l) })
				if x.Rule(s) != want {
					t.Fatalf("%v: %v: Rule %d, want %d", g.Rules, l, x.Rule(s), want)
				}
				tok := r.Intn(7) - 1
				sym := api.Sym{Tok: tok, Kind: max(tok, 0) / 2}
				l = append(l, sym)
				switch {
				case sym.Kind == api.Internal:
					s = x.Int(s, tok)
				case sym.Kind == api.Call:
					stack = append(stack, [2]int{s, tok})
					s = x.Call(s, tok)
				case len(stack) == 0:
					s = x.Bottom(s, tok)
				default:
					top := stack[len(stack)-1]
					stack = stack[:len(stack)-1]
					s = x.Ret(s, top[0], top[1], tok)
				}
			}
		}
	}
}
