package print

import (
	"math/rand"
	"slices"
	"strings"
	"testing"

	"gobo/api"
	"gobo/gram"
	"gobo/parse"
	"gobo/regex"
	"gobo/runes"
	"gobo/sample"
)

var (
	span, one, seq, alt, star = sample.Set, sample.One, sample.Seq, sample.Alt, sample.Star
	tok, pseq, palt, more     = sample.Tok, sample.Then, sample.Either, sample.Many
)

var (
	none  = api.Re{Kind: api.RNone}
	empty = api.Re{Kind: api.REmpty}
)

// 14.1: sets.
func TestSet(t *testing.T) {
	for want, l := range map[string][]api.Range{
		"[]": nil, "a": span('a', 'a').Set, "Z": span('Z', 'Z').Set, "0": span('0', '0').Set, "[0-9A-Za-z]": span('0', '9', 'A', 'Z', 'a', 'z').Set, "[a-c]": span('a', 'c').Set, "[a-b]": span('a', 'b').Set, "[ac-dz]": span('a', 'a', 'c', 'd', 'z', 'z').Set,
		`\u{2D}`: span('-', '-').Set, `\u{0}`: span(0, 0).Set, `\u{A}`: span('\n', '\n').Set, `\u{E9}`: span('é', 'é').Set, `[\u{0}-\u{10FFFF}]`: span(0, api.MaxRune).Set, `[\u{D7FF}-\u{E000}]`: span(0xD7FF, 0xE000).Set, `[\u{60}\u{7B}]`: span('`', '`', '{', '{').Set, `[\u{2F}-0]`: span('/', '0').Set, `\u{5F}`: span('_', '_').Set,
	} {
		if got := Set(l); got != want {
			t.Errorf("Set(%x) = %q, want %q", l, got, want)
		}
	}
}

// 14.1: expressions, with ( ) just where they must be.
func TestRe(t *testing.T) {
	a, b, c := one('a'), one('b'), one('c')
	for want, e := range map[string]api.Re{
		"[]": none, "()": empty, "a": a, "a(bc)": seq(a, seq(b, c)), "abc": seq(seq(a, b), c), "(a|b)c": seq(alt(a, b), c), "a(b|c)": seq(a, alt(b, c)), "a|b|c": alt(alt(a, b), c), "a|(b|c)": alt(a, alt(b, c)), "ab|bc": alt(seq(a, b), seq(b, c)),
		"a*": star(a), "a**": star(star(a)), "(ab)*": star(seq(a, b)), "(a|b)*": star(alt(a, b)), "()*": star(empty), "[]*": star(none), "a*b": seq(star(a), b), "ab*": seq(a, star(b)), "()[]": seq(empty, none), "[a-c]*": star(span('a', 'c')),
	} {
		if got := Re(e); got != want {
			t.Errorf("Re = %q, want %q", got, want)
		}
	}
	for i, e := range []api.Re{{Kind: 9}, {Kind: api.RSet}, star(api.Re{Kind: -1}), {Kind: api.RSeq}, {Kind: api.RAlt, L: []api.Re{a, b, c}}} {
		if got := Re(e); got != "" {
			t.Errorf("%d: %q", i, got)
		}
	}
}

func in(o, c []string, p api.Pat) api.Pat {
	return api.Pat{Kind: api.PIn, Names: o, Ends: c, L: []api.Pat{p}}
}

var (
	well = api.Pat{Kind: api.PWell}
	nil0 = api.Pat{Kind: api.PEmpty}
)

// 14.2: patterns.
func TestPat(t *testing.T) {
	a := tok("a")
	for want, p := range map[string]api.Pat{
		"()": nil0, "_": well, "{a b}": tok("a", "b"), "_|(_|())": palt(well, palt(well, nil0)), "_|_|()": palt(palt(well, well), nil0), "_ {a} ()": pseq(pseq(well, a), nil0), "_ ({a} ())": pseq(well, pseq(a, nil0)), "(_|{a}) ()": pseq(palt(well, a), nil0), "_ (_|{a})": pseq(well, palt(well, a)), "_ {a}|()": palt(pseq(well, a), nil0),
		"{a}**": more(more(a)), "({a} _)*": more(pseq(a, well)), "({a}|_)*": more(palt(a, well)), "()*": more(nil0), "<a b:_|{a}:c d>*": more(in([]string{"a", "b"}, []string{"c", "d"}, palt(well, a))), "<o:{a} ({a} _):c>": in([]string{"o"}, []string{"c"}, pseq(a, pseq(a, well))),
	} {
		if got := Pat(p); got != want {
			t.Errorf("Pat = %q, want %q", got, want)
		}
	}
	deep := nil0
	for i := 0; i < 12; i++ {
		deep = more(deep)
	}
	for i, p := range []api.Pat{{}, {Kind: 8}, tok(), {Kind: api.PSeq}, {Kind: api.PStar}, {Kind: api.PIn, Names: []string{"o"}, L: []api.Pat{nil0}}, {Kind: api.PWell, Names: []string{"a"}}, more(api.Pat{}), deep} {
		if got := Pat(p); got != "" {
			t.Errorf("%d: %q", i, got)
		}
	}
}

// 14.2: patterns of as many nodes, and as deep, as they may be, and not more.
func TestPatLimits(t *testing.T) {
	for deep := 1; deep <= 13; deep++ {
		p := nil0
		for n := 1; n < deep; n++ {
			p = more(p)
		}
		want := "()" + strings.Repeat("*", deep-1)
		if deep > api.MaxDeep {
			want = ""
		}
		if got := Pat(p); got != want {
			t.Errorf("%d deep: %q", deep, got)
		}
	}
	half := []api.Pat{nil0}
	for i := 1; i < 5; i++ {
		half = append(half, palt(half[i-1], half[i-1]))
	}
	p := palt(half[4], palt(half[3], more(palt(half[2], nil0)))) // 1 + 31 + 1 + 15 + 1 + 1 + 7 + 1
	for nodes := 58; nodes < 64; nodes++ {
		if got := Pat(p); (got == "") != (nodes > api.MaxNodes) {
			t.Errorf("%d nodes: %q", nodes, got)
		}
		p = more(p)
	}
}

// base is a grammar to change, made anew each time.
func base() api.Grammar {
	return api.Grammar{
		Tokens: []api.Token{{Name: "a", Class: 1, Re: span('a', 'b')}, {Name: "o", Kind: api.Call, Re: one('(')}, {Name: "c", Kind: api.Return, Class: 31, Re: alt(one('x'), one(')'))}},
		Rules:  []api.Rule{{Class: 10, Free: true, Steps: []api.Step{{Calls: []string{"o"}, P: tok("a")}}}, {Steps: []api.Step{{P: pseq(well, palt(tok("a"), nil0))}, {Calls: []string{"o"}, P: well}}}},
	}
}

// 14.2: grammars, and what can't be printed.
func TestSource(t *testing.T) {
	want := "tok a int 1 = /[a-b]/\ntok o call 0 = /\\u{28}/\ntok c ret 31 = /x|\\u{29}/\nrule 10 free ^ {o} {a}\nrule 0 _ ({a}|()) ^ {o} _\n"
	if got, code := Source(base()); got != want || code != api.OK {
		t.Errorf("%q %d", got, code)
	}
	wide := span()
	for r := rune(0x10000); len(wide.Set) < api.MaxRanges; r += 9 {
		wide.Set = append(wide.Set, api.Range{Lo: r, Hi: r + 5})
	}
	for i, x := range []struct {
		change func(*api.Grammar)
		want   int
	}{
		{func(g *api.Grammar) { g.Tokens = nil }, api.ErrLimit},
		{func(g *api.Grammar) { g.Rules[0].Steps[0].P = tok("x") }, api.ErrName},
		{func(g *api.Grammar) { g.Tokens[2].Re = seq(one('a'), star(none)) }, api.ErrArg},
		{func(g *api.Grammar) { g.Tokens[2].Re = none; g.Rules[0].Class = 99 }, api.ErrLimit},
		{func(g *api.Grammar) { g.Tokens[0].Re = star(none) }, api.ErrEmpty},
		{func(g *api.Grammar) {
			four := seq(wide, seq(wide, seq(wide, wide)))
			g.Tokens[0].Re, g.Tokens[1].Re, g.Tokens[2].Re = four, four, four
		}, api.ErrLimit},
		{func(g *api.Grammar) {
			g.Tokens[0].Re, g.Tokens[1].Re = seq(wide, seq(wide, seq(wide, wide))), seq(wide, seq(wide, seq(wide, none)))
		}, api.ErrArg},
	} {
		g := base()
		x.change(&g)
		if got, code := Source(g); got != "" || code != x.want {
			t.Errorf("%d: %d, want %d", i, code, x.want)
		}
	}
}

// 14.2: the limit is 4,000 bytes.
func TestLimit(t *testing.T) {
	for extra := 0; extra < 2; extra++ {
		g := api.Grammar{}
		size := 0
		for i := 0; i < 16; i++ {
			e := span()
			for r := rune(0x10000); len(e.Set) < api.MaxRanges-6; r += 9 {
				e.Set = append(e.Set, api.Range{Lo: r, Hi: r + 5})
			}
			g.Tokens = append(g.Tokens, api.Token{Name: "t" + string(rune('a'+i)), Re: e})
		}
		for n := range g.Tokens {
			text, _ := Source(api.Grammar{Tokens: g.Tokens[n : n+1]})
			size += len(text)
		}
		for size > api.MaxSource {
			last := &g.Tokens[len(g.Tokens)-1]
			if len(last.Re.Set) > 1 {
				size -= len(`\u{10000}-\u{10000}`)
				last.Re.Set = last.Re.Set[1:]
				continue
			}
			text, _ := Source(api.Grammar{Tokens: []api.Token{*last}})
			size -= len(text)
			g.Tokens = g.Tokens[:len(g.Tokens)-1]
		}
		for k := range g.Tokens {
			for ; size < api.MaxSource+extra && len(g.Tokens[k].Name) < api.MaxName; size++ {
				g.Tokens[k].Name += "x"
			}
		}
		text, code := Source(g)
		if extra == 0 && (code != api.OK || len(text) != api.MaxSource) || extra == 1 && (code != api.ErrLimit || text != "") {
			t.Errorf("%d: %d bytes, %d", extra, len(text), code)
		}
	}
}

func someRe(r *rand.Rand, deep int) api.Re {
	if deep == 0 || r.Intn(5) == 0 {
		ends := []rune{0, '\n', '-', 'a', 'z', 0xD7FF, 0xE000, api.MaxRune}
		l := runes.Norm([]api.Range{{Lo: ends[r.Intn(8)], Hi: ends[r.Intn(8)]}, {Lo: ends[r.Intn(8)], Hi: ends[r.Intn(8)]}})
		if len(l) == 0 {
			return empty
		}
		return api.Re{Kind: api.RSet, Set: l}
	}
	switch r.Intn(3) {
	case 0:
		return seq(someRe(r, deep-1), someRe(r, deep-1))
	case 1:
		return alt(someRe(r, deep-1), someRe(r, deep-1))
	}
	return star(someRe(r, deep-1))
}

func somePat(r *rand.Rand, deep int) api.Pat {
	if deep == 0 || r.Intn(5) == 0 {
		return []api.Pat{nil0, well, tok("a"), well}[r.Intn(4)]
	}
	switch r.Intn(4) {
	case 0:
		return pseq(somePat(r, deep-1), somePat(r, deep-1))
	case 1:
		return palt(somePat(r, deep-1), somePat(r, deep-1))
	case 2:
		return in([]string{"o"}, []string{"c"}, somePat(r, deep-1))
	}
	return more(somePat(r, deep-1))
}

// 14.3: what is printed is parsed as the same grammar.
func TestAny(t *testing.T) {
	r := rand.New(rand.NewSource(14))
	for i := 0; i < 3000; i++ {
		g := base()
		e := someRe(r, 4)
		if back, code, _ := parse.Re(Re(e)); code != api.OK || !regex.Same(back, e) {
			t.Fatalf("%q", Re(e))
		}
		if !regex.Empty(e) {
			g.Tokens[r.Intn(3)].Re = e
		}
		g.Rules[0].Steps[0].P = somePat(r, 4)
		g.Rules[1].Steps[1].P = somePat(r, 3)
		g.Rules = g.Rules[:r.Intn(3)]
		text, code := Source(g)
		if code == api.ErrLimit && slices.ContainsFunc(g.Tokens, func(t api.Token) bool { return !regex.May(t.Re) }) {
			continue
		}
		back, code2, at := parse.Source(text)
		if code != api.OK || code2 != api.OK || !gram.Same(back, g) {
			t.Fatalf("%q: %d, %d at %d", text, code, code2, at)
		}
		if n := strings.Count(text, "\n"); n != len(g.Tokens)+len(g.Rules) {
			t.Fatalf("%q: %d lines", text, n)
		}
	}
}
