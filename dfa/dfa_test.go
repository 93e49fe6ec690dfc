package dfa

import (
	"math"
	"math/rand"
	"slices"
	"testing"

	"gobo/api"
	"gobo/nfa"
	"gobo/sample"
)

var one, set, seq, alt, star = sample.One, sample.Set, sample.Seq, sample.Alt, sample.Star

func machine(t *testing.T, l ...api.Re) *nfa.Nfa {
	n, code := nfa.Build(l)
	if code != api.OK {
		t.Fatal(code)
	}
	return n
}

func must(t *testing.T, l ...api.Re) *Dfa {
	d, code := Build(machine(t, l...), api.MaxStates)
	if code != api.OK {
		t.Fatal(code)
	}
	return d
}

// 8.1: the first range that contains a rune.
func TestCell(t *testing.T) {
	l := []api.Range{{Lo: 'a', Hi: 'c'}, {Lo: 'b', Hi: 'z'}, {Lo: 'z', Hi: 'a'}, {Lo: -9, Hi: api.MaxRune + 9}}
	for _, x := range []struct {
		r    rune
		want int
	}{{'b', 0}, {'d', 1}, {'z', 1}, {'{', 3}, {0xD7FF, 3}, {0xD800, -1}, {-1, -1}, {api.MaxRune + 1, -1}, {api.MaxRune, 3}} {
		if got := Cell(l, x.r); got != x.want {
			t.Errorf("Cell(%x) = %d", x.r, got)
		}
	}
	if Cell(nil, 'a') != -1 || Cell(l[:2], '{') != -1 {
		t.Error("none")
	}
}

// 8.2: errors, the first one first.
func TestErrors(t *testing.T) {
	n := machine(t, seq(one('a'), one('b')), star(set('a', 'b')))
	for _, x := range []struct {
		n          *nfa.Nfa
		most, want int
	}{
		{nil, 5, api.ErrArg}, {nil, 0, api.ErrArg}, {n, 0, api.ErrArg}, {n, -1, api.ErrArg}, {n, api.MaxStates + 1, api.ErrArg}, {n, math.MinInt, api.ErrArg}, {n, math.MaxInt, api.ErrArg},
		{n, 1, api.ErrLarge}, {n, 3, api.ErrLarge}, {n, 4, api.OK}, {n, api.MaxStates, api.OK},
	} {
		if d, code := Build(x.n, x.most); code != x.want || (d == nil) != (code != api.OK) {
			t.Errorf("most %d: %d", x.most, code)
		}
	}
}

// 8.2: the example (its (a|b) is the set of a and b), and how states are numbered.
func TestBuild(t *testing.T) {
	d := must(t, seq(one('a'), one('b')), star(set('a', 'b')))
	if d.Len() != 4 || !slices.Equal(d.Cells(), []api.Range{{Lo: 'a', Hi: 'a'}, {Lo: 'b', Hi: 'b'}}) {
		t.Error(d.Len(), d.Cells())
	}
	for s, want := range []int{1, 1, 1, 0} {
		if d.Rule(s) != want {
			t.Errorf("Rule(%d) = %d", s, d.Rule(s))
		}
	}
	if d.Next(0, 0) != 1 || d.Next(0, 1) != 2 || d.Next(1, 1) != 3 || d.Next(0, 2) != -1 || d.Next(0, -1) != -1 || d.Next(-1, 0) != -1 || d.Next(4, 0) != -1 || d.Rule(4) != -1 || d.Rule(-1) != -1 {
		t.Error("Next")
	}
	d.Cells()[0].Lo = 'q'
	if d.Cells()[0].Lo != 'a' {
		t.Error("shared")
	}
	if parts := must(t, seq(one('a'), one('b')), star(alt(one('a'), one('b')))); parts.Len() != 5 || parts.Rule(3) != 1 || parts.Rule(4) != 0 {
		t.Error("a|b in two sets has a state for each")
	}
	if must(t, one('a')).Len() != 2 {
		t.Error("a has two states")
	}
}

// 8.2: the empty set is no state, and Step asks for the rune's cell.
func TestStep(t *testing.T) {
	d := must(t, seq(star(one('a')), one('b')), set('a', 'c'))
	if d.Next(0, 0) != 1 || d.Next(1, 2) != -1 || d.Step(0, 'c') != d.Next(0, 2) || d.Step(0, 'd') != -1 || d.Step(1, 'c') != -1 || d.Step(-1, 'a') != -1 || d.Step(99, 'a') != -1 {
		t.Error("Step")
	}
	wide := must(t, set(0xD000, 0xF000))
	for r, want := range map[rune]int{0xD000: 1, 0xD7FF: 1, 0xD800: -1, 0xDFFF: -1, 0xE000: 1, 0xF000: 1, 0xF001: -1, -1: -1, api.MaxRune + 1: -1, 0: -1} {
		if wide.Step(0, r) != want {
			t.Errorf("Step(%x) = %d", r, wide.Step(0, r))
		}
	}
}

// 8.2: no automaton.
func TestNil(t *testing.T) {
	var d *Dfa
	if d.Len() != 0 || len(d.Cells()) != 0 || d.Next(0, 0) != -1 || d.Step(0, 'a') != -1 || d.Rule(0) != -1 {
		t.Error("nil")
	}
}

// 8.2, 8.3: states are the sets, in the order in which they are found, and one step a rune says what the position automaton says.
func TestAny(t *testing.T) {
	r := rand.New(rand.NewSource(8))
	for i := 0; i < 1000; i++ {
		l := []api.Re{sample.Re(r.Intn, 4), sample.Re(r.Intn, 3)}
		n, d := machine(t, l...), must(t, l...)
		sets, found := [][]int{{0}}, 1
		for s := 0; s < len(sets); s++ {
			if want := append(n.Rules(sets[s]), -1)[0]; d.Rule(s) != want {
				t.Fatalf("%v: Rule(%d) = %d", l, s, d.Rule(s))
			}
			for cell, x := range n.Cells() {
				set, to := n.Next(sets[s], x.Hi), d.Next(s, cell)
				if len(set) == 0 {
					if to != -1 {
						t.Fatalf("%v: the empty set is %d", l, to)
					}
					continue
				}
				if to == found {
					sets, found = append(sets, set), found+1
				}
				if to < 0 || to >= found || !slices.Equal(sets[to], set) || d.Step(s, x.Lo) != to {
					t.Fatalf("%v: from %d by %c: %d", l, s, x.Lo, to)
				}
			}
		}
		if d.Len() != found {
			t.Fatalf("%v: %d states", l, d.Len())
		}
	}
}
