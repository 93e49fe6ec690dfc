package driver

import (
	"math"
	"math/rand"
	"slices"
	"testing"

	"gobo/api"
	"gobo/det"
	"gobo/forest"
	"gobo/merge"
	"gobo/pattern"
	"gobo/sample"
)

var (
	token, seq, alt, star, within = sample.Tok, sample.Then, sample.Either, sample.Many, sample.In
	at, grammar                   = sample.Step, sample.Grammar
	rule, free                    = sample.Rule, sample.Free
)

var (
	empty = api.Pat{Kind: api.PEmpty}
	well  = api.Pat{Kind: api.PWell}
)

const a, b, o, p, c, d = sample.A, sample.B, sample.O, sample.P, sample.C, sample.D

func must(t *testing.T, g api.Grammar) *Driver {
	t.Helper()
	x, code := det.Build(g, api.MaxStates)
	if code != api.OK {
		t.Fatal(code)
	}
	d := New(g, merge.Build(g, x))
	if d == nil {
		t.Fatal("nil")
	}
	return d
}

func step(t *testing.T, x *Driver, tok, at, class, call int) {
	t.Helper()
	if k, n := x.Step(tok, at); k != class || n != call {
		t.Errorf("Step(%d, %d) = %d, %d, want %d, %d", tok, at, k, n, class, call)
	}
}

// nested is a grammar whose rule 10 is an a directly behind an open o.
func nested() api.Grammar {
	return grammar(api.Rule{Class: 10, Free: true, Steps: []api.Step{at("o", token("a"))}}, api.Rule{Class: 0, Steps: []api.Step{at("", seq(well, token("b")))}})
}

// 20.1: what no driver can be made of.
func TestNew(t *testing.T) {
	g := nested()
	x, _ := det.Build(g, api.MaxStates)
	if New(g, nil) != nil || New(api.Grammar{}, merge.Build(g, x)) != nil || New(grammar(api.Rule{Class: 99}), merge.Build(g, x)) != nil {
		t.Error("New")
	}
}

// 20.1: classes and partners.
func TestStep(t *testing.T) {
	x := must(t, nested())
	if x.State() != 0 || len(x.Calls()) != 0 {
		t.Error("new one")
	}
	step(t, x, c, 5, 5, -1)
	step(t, x, -1, 6, 0, -1)
	step(t, x, o, 100, 3, -1)
	step(t, x, a, 101, 10, -1)
	step(t, x, a, 102, 1, -1)
	step(t, x, p, -7, 4, -1)
	if !slices.Equal(x.Calls(), []int{100, -7}) {
		t.Error(x.Calls())
	}
	step(t, x, a, 0, 1, -1)
	step(t, x, c, 0, 5, -7)
	step(t, x, d, 0, 6, 100)
	step(t, x, d, 0, 6, -1)
	step(t, x, b, 0, 2, -1)
	if len(x.Calls()) != 0 {
		t.Error(x.Calls())
	}
	y := must(t, nested())
	step(t, y, b, 0, 0, -1)
	step(t, y, o, math.MinInt, 3, -1)
	step(t, y, c, 0, 5, math.MinInt)
	step(t, y, b, 0, 0, -1)
}

// 20.1: what is no token changes nothing.
func TestWrong(t *testing.T) {
	x := must(t, nested())
	step(t, x, o, 3, 3, -1)
	was := x.Save()
	for _, tok := range []int{-2, 6, math.MinInt, math.MaxInt} {
		step(t, x, tok, 9, -1, -1)
		if !x.Same(was, 0, 0) {
			t.Error("changed")
		}
	}
	var no *Driver
	step(t, no, a, 0, -1, -1)
	if no.State() != -1 || len(no.Calls()) != 0 || no.Save() != nil || no.Same(no, 0, 0) || no.Same(x, 0, 0) || x.Same(no, 0, 0) {
		t.Error("nil")
	}
}

// 20.1: copies go their own ways, and the grammar is not kept.
func TestSave(t *testing.T) {
	g := nested()
	x := must(t, g)
	g.Tokens[0].Class, g.Rules[0].Class = 30, 30
	step(t, x, o, 1, 3, -1)
	s := x.Save()
	step(t, x, a, 2, 10, -1)
	step(t, x, c, 3, 5, 1)
	step(t, x, p, 4, 4, -1)
	if !slices.Equal(s.Calls(), []int{1}) || !slices.Equal(x.Calls(), []int{4}) || s.Same(x, 0, 0) {
		t.Error(s.Calls())
	}
	step(t, s, p, 9, 4, -1)
	step(t, s, d, 3, 6, 9)
	step(t, s, d, 3, 6, 1)
	if !slices.Equal(x.Calls(), []int{4}) || len(s.Calls()) != 0 {
		t.Error(x.Calls())
	}
	x.Calls()[0] = 77
	if x.Calls()[0] != 4 {
		t.Error("shared")
	}
}

// 20.1: the same state and stack, with offsets shifted.
func TestSame(t *testing.T) {
	run := func(toks string, at ...int) *Driver {
		x := must(t, nested())
		for i, c := range toks {
			x.Step(map[rune]int{'a': a, 'b': b, 'o': o, 'p': p, 'c': 4}[c], at[i])
		}
		return x
	}
	x := run("oo", 100, 102)
	for i, w := range []struct {
		o        *Driver
		from, by int
		want     bool
	}{
		{x, 0, 0, true}, {x, 0, 1, false}, {x, 103, 1, true}, {run("oo", 0, 2), 0, 100, true}, {run("oo", 0, 2), 1, 100, false}, {run("oo", 100, 2), 1, 0, false}, {run("oo", 100, 2), 3, 100, false}, {run("oo", 100, 101), 101, 1, true}, {run("oo", 100, 102), math.MinInt, 0, true}, {run("oo", 105, 107), 0, -5, true},
		{run("op", 100, 102), 0, 0, false}, {run("o", 100), 0, 0, false}, {run("ooo", 100, 102, 104), 0, 0, false}, {run("ooa", 100, 102, 103), 0, 0, false}, {run("oao", 100, 101, 102), 0, 0, false}, {run("ooac", 100, 102, 103, 104), 0, 0, false},
	} {
		if x.Same(w.o, w.from, w.by) != w.want {
			t.Errorf("%d", i)
		}
	}
	one, two := must(t, grammar()), must(t, grammar())
	two.Step(o, 1)
	if one.State() != two.State() || one.Same(two, 0, 0) || two.Same(one, 0, 0) {
		t.Error("an empty stack")
	}
	y, z := run("oo", 100, 102), x.Save()
	if !x.Same(y, 0, 0) || !z.Same(x, 0, 0) || z.Same(x, 102, 1) || z.Same(x, 100, -1) {
		t.Error("shared parts")
	}
	x.Step(a, 5)
	z.Step(a, 6)
	if !x.Same(z, 0, 0) {
		t.Error("offsets of what is no Call")
	}
}

// 20.2: classes and partners are what the rules and the brackets define.
func TestAny(t *testing.T) {
	r := rand.New(rand.NewSource(20))
	for i := 0; i < 500; i++ {
		rules := sample.Rules(r.Intn, 2, 3)
		g := grammar(rules...)
		dd, code := det.Build(g, api.MaxStates)
		if code != api.OK {
			continue
		}
		m := merge.Build(g, dd)
		for k := 0; k < 10; k++ {
			x := New(g, m)
			var l []api.Sym
			for n := 0; n < 10; n++ {
				tok := r.Intn(7) - 1
				l = append(l, api.Sym{Tok: tok, Kind: max(tok, 0) / 2})
				class, call := x.Step(tok, 10*n)
				want := -1
				if p := forest.Pairs(l)[n]; p >= 0 {
					want = 10 * p
				}
				if class != pattern.Class(g, l) || call != want {
					t.Fatalf("%v: %v: %d, %d", rules, l, class, call)
				}
				var open []int
				for _, p := range forest.Open(l) {
					open = append(open, 10*p)
				}
				if !slices.Equal(x.Calls(), open) {
					t.Fatalf("%v: %v: Calls %v", rules, l, x.Calls())
				}
			}
		}
	}
}
