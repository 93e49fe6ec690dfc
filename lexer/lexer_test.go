package lexer

import (
	"math"
	"math/rand"
	"slices"
	"testing"

	"gobo/api"
	"gobo/decode"
	"gobo/mini"
	"gobo/regex"
	"gobo/sample"
)

var one, set, seq, alt, star = sample.One, sample.Set, sample.Seq, sample.Alt, sample.Star

var (
	none = api.Re{Kind: api.RNone}
	aab  = []api.Re{one('a'), seq(one('a'), seq(one('a'), one('b')))}
)

func must(t *testing.T, l ...api.Re) *mini.Mini {
	t.Helper()
	m, code := Build(l, api.MaxStates)
	if code != api.OK || m == nil {
		t.Fatal(code)
	}
	return m
}

// 10.1: errors, the first one first.
func TestBuild(t *testing.T) {
	as := []api.Re{star(one('a'))}
	for i, x := range []struct {
		l          []api.Re
		most, want int
	}{
		{as, 5, api.ErrEmpty}, {as, 2, api.ErrEmpty}, {as, 1, api.ErrLarge}, {as, 0, api.ErrArg}, {as, api.MaxStates + 1, api.ErrArg}, {nil, 5, api.ErrArg}, {nil, 0, api.ErrArg}, {[]api.Re{{Kind: 9}}, 5, api.ErrArg},
		{[]api.Re{one('a'), {Kind: api.REmpty}}, 5, api.ErrEmpty}, {slices.Repeat(aab[:1], 17), 5, api.ErrArg}, {aab, 3, api.ErrLarge}, {aab, 4, api.OK}, {[]api.Re{none}, 1, api.OK},
	} {
		if m, code := Build(x.l, x.most); code != x.want || (m == nil) != (code != api.OK) {
			t.Errorf("%d: %d, want %d", i, code, x.want)
		}
	}
}

// 10.2: the example, and how far is looked.
func TestOne(t *testing.T) {
	m := must(t, aab...)
	for _, x := range []struct {
		s    string
		at   int
		want api.Lex
		size int
		sure bool
	}{
		{"aac", 0, api.Lex{Rule: 0, From: 0, To: 1, Look: 3}, 1, true}, {"aac", 1, api.Lex{Rule: 0, From: 1, To: 2, Look: 3}, 1, true}, {"aac", 2, api.Lex{Rule: -1, From: 2, To: 3, Look: 3}, 1, true},
		{"aab", 0, api.Lex{Rule: 1, From: 0, To: 3, Look: 4}, 3, false}, {"aabx", 0, api.Lex{Rule: 1, From: 0, To: 3, Look: 4}, 3, true}, {"aa", 0, api.Lex{Rule: 0, From: 0, To: 1, Look: 3}, 1, false},
		{"aa\xE2\x82x", 0, api.Lex{Rule: 0, From: 0, To: 1, Look: 5}, 1, true}, {"aa\xFF", 0, api.Lex{Rule: 0, From: 0, To: 1, Look: 3}, 1, true}, {"\xE2\x82", 0, api.Lex{Rule: -1, From: 0, To: 2, Look: 3}, 1, true},
		{"\xFFa", 0, api.Lex{Rule: -1, From: 0, To: 1, Look: 1}, 1, true}, {"é", 0, api.Lex{Rule: -1, From: 0, To: 2, Look: 2}, 1, true},
		{"", 0, api.Lex{}, 0, false}, {"a", 1, api.Lex{}, 0, false}, {"a", -1, api.Lex{}, 0, false}, {"a", math.MinInt, api.Lex{}, 0, false}, {"a", math.MaxInt, api.Lex{}, 0, false},
	} {
		items := decode.All([]byte(x.s))
		if got, size := One(m, items, x.at); got != x.want || size != x.size {
			t.Errorf("One(%q, %d) = %v, %d", x.s, x.at, got, size)
		}
		if got := Sure(m, items, x.at); got != x.sure {
			t.Errorf("Sure(%q, %d) = %v", x.s, x.at, got)
		}
		if got, size := Model(aab, items, x.at); got != x.want || size != x.size {
			t.Errorf("Model(%q, %d) = %v, %d", x.s, x.at, got, size)
		}
	}
	items := decode.All([]byte("a"))
	if got, size := One(nil, items, 0); got != (api.Lex{}) || size != 0 || Sure(nil, items, 0) || len(All(nil, []byte("a"))) != 0 {
		t.Error("nil")
	}
}

// 10.2: an Item that has More without being Bad is one like others, and counts once.
func TestMore(t *testing.T) {
	items := []api.Item{{Rune: 'a', From: 7, To: 9, More: true}}
	if got, _ := One(must(t, aab...), items, 0); got != (api.Lex{Rule: 0, From: 7, To: 9, Look: 10}) {
		t.Error(got)
	}
	items = append(items, api.Item{Rune: 'x', From: 9, To: 12, More: true})
	if got, _ := One(must(t, aab...), items, 0); got != (api.Lex{Rule: 0, From: 7, To: 9, Look: 13}) {
		t.Error(got)
	}
}

// 10.2, 10.3: bytes that are no rune are in no set, not even in one with FFFD.
func TestBad(t *testing.T) {
	l := []api.Re{set(0, api.MaxRune), seq(one('a'), one(0xFFFD))}
	for s, want := range map[string]api.Lex{"\xFF": {Rule: -1, To: 1, Look: 1}, "a\xFF": {Rule: 0, To: 1, Look: 2}, "a\uFFFD": {Rule: 1, To: 4, Look: 5}, "\uFFFDa": {Rule: 0, To: 3, Look: 4}} {
		items := decode.All([]byte(s))
		if got, _ := One(must(t, l...), items, 0); got != want {
			t.Errorf("One(%q) = %v", s, got)
		}
		if got, _ := Model(l, items, 0); got != want {
			t.Errorf("Model(%q) = %v", s, got)
		}
	}
}

// 10.2, 10.4: all tokens.
func TestAll(t *testing.T) {
	m := must(t, aab...)
	for s, want := range map[string][]api.Lex{
		"":     nil,
		"aaba": {{Rule: 1, From: 0, To: 3, Look: 4}, {Rule: 0, From: 3, To: 4, Look: 5}},
		"aac":  {{Rule: 0, From: 0, To: 1, Look: 3}, {Rule: 0, From: 1, To: 2, Look: 3}, {Rule: -1, From: 2, To: 3, Look: 3}},
	} {
		if got := All(m, []byte(s)); !slices.Equal(got, want) {
			t.Errorf("All(%q) = %v", s, got)
		}
	}
}

// 10.3: of what is no list of tokens, Model tells nothing.
func TestModelBad(t *testing.T) {
	items := decode.All([]byte("a"))
	for i, l := range [][]api.Re{nil, {star(one('a'))}, {one('a'), {Kind: 9}}, {one('a'), {Kind: api.REmpty}}, slices.Repeat(aab[:1], 17)} {
		if got, size := Model(l, items, 0); got != (api.Lex{}) || size != 0 {
			t.Errorf("%d: %v", i, got)
		}
	}
	if got, size := Model(slices.Repeat(aab[:1], 16), items, 0); got.Rule != 0 || size != 1 {
		t.Error(got)
	}
}

// 10.3: a token may be longer than what regex.Fronts looks at.
func TestLong(t *testing.T) {
	l := []api.Re{seq(star(one('a')), one('b'))}
	items := decode.All(append(slices.Repeat([]byte{'a'}, 5000), 'b', 'c'))
	got, size := Model(l, items, 0)
	want, n := One(must(t, l...), items, 0)
	if got != want || size != n || size != 5001 {
		t.Error(got, want)
	}
}

// want is the token by regex.Is of every prefix.
func want(l []api.Re, items []api.Item, at int) (rule, size int) {
	rule, size = -1, 1
	var s []rune
	for i := at; i < len(items) && !items[i].Bad; i++ {
		s = append(s, items[i].Rune)
		for k, e := range l {
			if regex.Is(e, s) {
				rule, size = k, i-at+1
				break
			}
		}
	}
	return rule, size
}

// 10.2 to 10.4: One and Model agree with each other and with the expressions; the tokens are all bytes; what lies behind Look is not looked at.
func TestAny(t *testing.T) {
	r := rand.New(rand.NewSource(10))
	pieces := []string{"a", "b", "a", "b", "é", "c", "\xFF", "\xC3", "\xE2\x82"}
	for i := 0; i < 1500; {
		l := []api.Re{sample.Re(r.Intn, 4), sample.Re(r.Intn, 3), sample.Re(r.Intn, 3)}
		if slices.ContainsFunc(l, regex.Empty) {
			continue
		}
		i++
		m := must(t, l...)
		s := ""
		for n := r.Intn(8); n > 0; n-- {
			s += pieces[r.Intn(len(pieces))]
		}
		items := decode.All([]byte(s))
		all, end := All(m, []byte(s)), 0
		for at := 0; at < len(items); {
			lex, size := One(m, items, at)
			model, n := Model(l, items, at)
			rule, count := want(l, items, at)
			if lex != model || size != n || rule != lex.Rule || size != count {
				t.Fatalf("%v: %q at %d: %v %v %d %d", l, s, at, lex, model, rule, count)
			}
			if len(all) == 0 || all[0] != lex || lex.From != end || lex.Look < lex.To {
				t.Fatalf("%v: %q: All", l, s)
			}
			if lex.Look <= len(s) {
				other := decode.All([]byte(s[:lex.Look] + "b\xBF\xFF"[r.Intn(3):]))
				if o, _ := One(m, other, at); o != lex {
					t.Fatalf("%v: %q at %d: %v changes to %v", l, s, at, lex, o)
				}
			}
			if !Sure(m, items, at) && lex.Look != len(s)+1 {
				t.Fatalf("%v: %q at %d: not sure, looks to %d", l, s, at, lex.Look)
			}
			all, end, at = all[1:], lex.To, at+size
		}
		if len(all) != 0 || end != len(s) {
			t.Fatalf("%v: %q: not all bytes", l, s)
		}
	}
}
