package nfa

import (
	"math"
	"math/rand"
	"slices"
	"testing"

	"gobo/api"
	"gobo/regex"
	"gobo/sample"
)

var one, set, seq, alt, star = sample.One, sample.Set, sample.Seq, sample.Alt, sample.Star

var (
	none  = api.Re{Kind: api.RNone}
	empty = api.Re{Kind: api.REmpty}
)

func must(t *testing.T, l ...api.Re) *Nfa {
	n, code := Build(l)
	if code != api.OK || n == nil {
		t.Fatal(code)
	}
	return n
}

func is(t *testing.T, what string, got []int, want ...int) {
	t.Helper()
	if !slices.Equal(got, want) {
		t.Errorf("%s: %v, want %v", what, got, want)
	}
}

// 7.1: what can't be built.
func TestErrArg(t *testing.T) {
	for i, l := range [][]api.Re{nil, {}, {one('a'), {Kind: 9}}, {{Kind: api.RSet}}, slices.Repeat([]api.Re{one('a')}, api.MaxTokens+1)} {
		if n, code := Build(l); n != nil || code != api.ErrArg {
			t.Errorf("%d: %v %d", i, n, code)
		}
	}
	must(t, slices.Repeat([]api.Re{one('a')}, api.MaxTokens)...)
}

// 7.1: the single expression a.
func TestOne(t *testing.T) {
	n := must(t, one('a'))
	if n.Len() != 2 {
		t.Error(n.Len())
	}
	is(t, "first", n.Next([]int{0}, 'a'), 1)
	is(t, "other rune", n.Next([]int{0}, 'b'))
	is(t, "behind", n.Next([]int{1}, 'a'))
	is(t, "no states", n.Next([]int{-1, 2, math.MaxInt, math.MinInt}, 'a'))
	is(t, "rules", n.Rules([]int{1}), 0)
	is(t, "rules of 0", n.Rules([]int{0}))
	is(t, "rules of none", n.Rules([]int{-1, 2}))
	is(t, "nothing", n.Next(nil, 'a'))
	is(t, "twice", n.Next([]int{0, 0, 7, 0}, 'a'), 1)
}

// 7.1: first, last and follow, kind by kind.
func TestPositions(t *testing.T) {
	n := must(t, seq(star(one('a')), one('b')), set('a', 'c'), alt(empty, seq(one('a'), none)), none)
	if n.Len() != 5 {
		t.Error(n.Len())
	}
	is(t, "first by a", n.Next([]int{0}, 'a'), 1, 3, 4)
	is(t, "first by b", n.Next([]int{0}, 'b'), 2, 3)
	is(t, "star", n.Next([]int{1}, 'a'), 1)
	is(t, "star's end", n.Next([]int{1}, 'b'), 2)
	is(t, "unordered", n.Next([]int{1, 0}, 'a'), 1, 3, 4)
	is(t, "rules", n.Rules([]int{3, 2, 0, 4, 1}), 0, 1, 2)
	is(t, "last of none", n.Rules([]int{4}))
	is(t, "empty ones", n.Rules([]int{0}), 2)
	if want := []api.Range{{Lo: 'a', Hi: 'a'}, {Lo: 'b', Hi: 'b'}, {Lo: 'c', Hi: 'c'}}; !slices.Equal(n.Cells(), want) {
		t.Error(n.Cells())
	}
	n.Cells()[0].Lo = 'q'
	if n.Cells()[0].Lo != 'a' {
		t.Error("shared")
	}
	m := must(t, seq(seq(star(one('a')), star(one('b'))), star(one('c'))))
	is(t, "through empty parts", m.Next([]int{0}, 'c'), 3)
	is(t, "past an empty part", m.Next([]int{1}, 'c'), 3)
	is(t, "all last", m.Rules([]int{1}), 0)
	is(t, "itself empty", m.Rules([]int{0}), 0)
}

// 7.1: the expressions are not kept.
func TestOwn(t *testing.T) {
	e := one('a')
	n := must(t, e)
	e.Set[0].Lo, e.Set[0].Hi = 'x', 'x'
	is(t, "kept", n.Next([]int{0}, 'a'), 1)
}

// 7.1: surrogates are in no set.
func TestSurrogates(t *testing.T) {
	n := must(t, set(0, api.MaxRune))
	for _, r := range []rune{0xD800, -1, api.MaxRune + 1} {
		is(t, "no rune", n.Next([]int{0}, r))
	}
}

// 7.1: no automaton.
func TestNil(t *testing.T) {
	var n *Nfa
	if n.Len() != 0 || len(n.Cells()) != 0 || len(n.Next([]int{0}, 'a')) != 0 || len(n.Rules([]int{0})) != 0 {
		t.Error("nil")
	}
}

// 7.2: the Rules of what a string leads to are the expressions that it matches.
func TestAny(t *testing.T) {
	r := rand.New(rand.NewSource(7))
	for i := 0; i < 3000; i++ {
		var l []api.Re
		for n := 1 + r.Intn(4); n > 0; n-- {
			l = append(l, sample.Re(r.Intn, 3))
		}
		n := must(t, l...)
		now, s := []int{0}, []rune(nil)
		for k := 0; k < 6; k++ {
			var want []int
			for rule, e := range l {
				if regex.Is(e, s) {
					want = append(want, rule)
				}
			}
			if got := n.Rules(now); !slices.Equal(got, want) {
				t.Fatalf("%v: %q: %v, want %v", l, string(s), got, want)
			}
			x := rune("abc"[r.Intn(3)])
			s, now = append(s, x), n.Next(now, x)
		}
	}
}
