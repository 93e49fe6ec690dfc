package regex

import (
	"math/rand"
	"slices"
	"testing"

	"gobo/api"
	"gobo/sample"
)

var one, set, seq, alt, star = sample.One, sample.Set, sample.Seq, sample.Alt, sample.Star

var (
	none  = api.Re{Kind: api.RNone}
	empty = api.Re{Kind: api.REmpty}
	abs   = star(alt(one('a'), one('b')))
)

// wide has n ranges.
func wide(n int) api.Re {
	e := api.Re{Kind: api.RSet}
	for i := 0; i < n; i++ {
		e.Set = append(e.Set, api.Range{Lo: rune(3 * i), Hi: rune(3*i + 1)})
	}
	return e
}

// deep is n levels deep; full has n nodes, n odd.
func deep(n int) api.Re {
	e := one('a')
	for ; n > 1; n-- {
		e = star(e)
	}
	return e
}

func full(n int) api.Re {
	if n == 1 {
		return one('a')
	}
	half := (n - 1) / 2
	if half%2 == 0 {
		return alt(full(half-1), full(half+1))
	}
	return alt(full(half), full(half))
}

// bad is expressions that are not valid, one for each way of 6.1.
func bad() []api.Re {
	s := one('a').Set
	return []api.Re{
		{Kind: -1}, {Kind: 6}, {Kind: api.RSet}, {Kind: api.RNone, Set: s}, {Kind: api.REmpty, Set: s}, {Kind: api.RNone, L: []api.Re{empty}}, {Kind: api.REmpty, L: []api.Re{empty}},
		{Kind: api.RSet, Set: s, L: []api.Re{empty}}, {Kind: api.RSet, Set: []api.Range{{Lo: 'b', Hi: 'a'}}}, {Kind: api.RSet, Set: []api.Range{{Lo: 'a', Hi: 'b'}, {Lo: 'c', Hi: 'c'}}},
		{Kind: api.RSet, Set: []api.Range{{Lo: 0xD800, Hi: 0xE000}}},
		{Kind: api.RSeq, L: []api.Re{empty}}, {Kind: api.RSeq, L: []api.Re{empty, empty, empty}}, {Kind: api.RAlt, L: []api.Re{empty}}, {Kind: api.RStar}, {Kind: api.RStar, L: []api.Re{empty, empty}},
		{Kind: api.RSeq, Set: s, L: []api.Re{empty, empty}}, {Kind: api.RStar, Set: s, L: []api.Re{empty}},
		star(api.Re{Kind: 9}), wide(api.MaxRanges + 1), deep(api.MaxDeep + 1), full(api.MaxNodes + 1), seq(empty, full(api.MaxNodes-1)),
	}
}

// 6.1: what is valid, up to the limits.
func TestMay(t *testing.T) {
	for i, e := range []api.Re{none, empty, one('a'), abs, wide(api.MaxRanges), deep(api.MaxDeep), full(api.MaxNodes - 1), star(full(api.MaxNodes - 1)), {Kind: api.REmpty, Set: []api.Range{}, L: []api.Re{}}, set(0xD7FF, 0xE000)} {
		if !May(e) {
			t.Errorf("good %d", i)
		}
	}
	for i, e := range bad() {
		if May(e) {
			t.Errorf("bad %d", i)
		}
	}
}

// 6.1: a part that is shared again and again has more nodes than anyone can visit.
func TestShared(t *testing.T) {
	e := one('a')
	for i := 0; i < 200; i++ {
		e = alt(e, e)
	}
	if May(e) || Is(e, []rune{'a'}) || Empty(e) || Fronts(e, nil) != nil || Sets(e) != nil {
		t.Error("shared")
	}
}

// 6.1: nodes and depth, of what is not valid too.
func TestCount(t *testing.T) {
	for _, x := range []struct {
		e           api.Re
		nodes, deep int
	}{{abs, 4, 3}, {none, 1, 1}, {api.Re{Kind: 77, L: []api.Re{abs, none, none}}, 7, 4}, {deep(40), 40, 40}, {full(61), 61, 6}} {
		if n, d := Count(x.e); n != x.nodes || d != x.deep && x.nodes != 61 {
			t.Errorf("Count = %d, %d, want %d, %d", n, d, x.nodes, x.deep)
		}
	}
}

// 6.2: of what is not valid nothing is told.
func TestBad(t *testing.T) {
	for i, e := range bad() {
		if Empty(e) || Is(e, nil) || Is(e, []rune{'a'}) || len(Fronts(e, []rune{'a'})) > 0 || len(Sets(e)) > 0 {
			t.Errorf("bad %d", i)
		}
	}
}

// 6.2: matching, kind by kind.
func TestIs(t *testing.T) {
	for _, x := range []struct {
		e    api.Re
		s    string
		want bool
	}{
		{none, "", false}, {none, "a", false}, {empty, "", true}, {empty, "a", false}, {one('a'), "a", true}, {one('a'), "", false}, {one('a'), "b", false}, {one('a'), "aa", false},
		{abs, "", true}, {abs, "abba", true}, {abs, "abc", false}, {seq(one('a'), one('b')), "ab", true}, {seq(one('a'), one('b')), "a", false}, {seq(one('a'), none), "a", false},
		{star(none), "", true}, {star(none), "a", false}, {star(star(one('a'))), "aaa", true}, {alt(none, one('a')), "a", true}, {seq(star(one('a')), one('a')), "aaa", true}, {seq(star(one('a')), one('a')), "", false},
		{star(seq(one('a'), one('b'))), "abab", true}, {star(seq(one('a'), one('b'))), "aba", false}, {seq(empty, seq(empty, one('é'))), "é", true},
	} {
		if Is(x.e, []rune(x.s)) != x.want {
			t.Errorf("Is(%v, %q)", x.e, x.s)
		}
		if x.s == "" && Empty(x.e) != x.want {
			t.Errorf("Empty(%v)", x.e)
		}
	}
	for _, r := range []rune{0xD800, 0xDFFF, -1, 0x110000} {
		if Is(set(0, api.MaxRune), []rune{r}) || Is(set(0xD000, 0xF000), []rune{r}) {
			t.Errorf("%x is no rune", r)
		}
	}
}

// 6.2: prefixes, of the first 2,000 runes.
func TestFronts(t *testing.T) {
	if got := Fronts(abs, []rune("abc")); !slices.Equal(got, []int{0, 1, 2}) {
		t.Error(got)
	}
	if got := Fronts(one('a'), nil); len(got) != 0 {
		t.Error(got)
	}
	long := slices.Repeat([]rune{'a'}, 2500)
	if got := Fronts(seq(star(one('a')), one('a')), long); len(got) != 2000 || got[1999] != 2000 {
		t.Error(len(got))
	}
	if !Is(abs, long) {
		t.Error("Is reads all of it")
	}
}

// 6.2: sets, which belong to the caller.
func TestSets(t *testing.T) {
	e := seq(abs, set('x', 'z'))
	got := Sets(e)
	if len(got) != 3 || got[0][0].Lo != 'a' || got[1][0].Lo != 'b' || got[2][0] != (api.Range{Lo: 'x', Hi: 'z'}) {
		t.Error(got)
	}
	got[0][0].Lo = 'q'
	if e.L[0].L[0].L[0].Set[0].Lo != 'a' {
		t.Error("shared")
	}
	if len(Sets(empty)) != 0 {
		t.Error("sets of nothing")
	}
}

// 6.2: Same, part by part, of what is not valid too.
func TestSame(t *testing.T) {
	l := append(bad(), none, empty, one('a'), one('b'), set('a', 'b'), abs, star(one('a')), seq(one('a'), one('b')), alt(one('a'), one('b')), seq(one('b'), one('a')))
	for i, a := range l {
		for k, b := range l {
			if Same(a, b) != (i == k) {
				t.Errorf("Same of %d and %d", i, k)
			}
		}
	}
	if !Same(api.Re{Set: []api.Range{}, L: []api.Re{}}, api.Re{}) {
		t.Error("nil and empty")
	}
}

// naive matches as 6.2 defines it.
func naive(e api.Re, s []rune) bool {
	switch e.Kind {
	case api.REmpty:
		return len(s) == 0
	case api.RSet:
		return len(s) == 1 && s[0] >= e.Set[0].Lo && s[0] <= e.Set[0].Hi
	case api.RAlt:
		return naive(e.L[0], s) || naive(e.L[1], s)
	case api.RSeq:
		for i := 0; i <= len(s); i++ {
			if naive(e.L[0], s[:i]) && naive(e.L[1], s[i:]) {
				return true
			}
		}
	case api.RStar:
		if len(s) == 0 {
			return true
		}
		for i := 1; i <= len(s); i++ {
			if naive(e.L[0], s[:i]) && naive(e, s[i:]) {
				return true
			}
		}
	}
	return false
}

// 6.2, 6.3: expressions match what their definition says.
func TestAny(t *testing.T) {
	r := rand.New(rand.NewSource(6))
	for i := 0; i < 4000; i++ {
		e := sample.Re(r.Intn, 4)
		s := make([]rune, r.Intn(7))
		for k := range s {
			s[k] = rune("aaaabbbbc"[r.Intn(9)])
		}
		var fronts []int
		for n := 0; n <= len(s); n++ {
			want := naive(e, s[:n])
			if Is(e, s[:n]) != want {
				t.Fatalf("%v: %q", e, string(s[:n]))
			}
			if want {
				fronts = append(fronts, n)
			}
		}
		if !slices.Equal(Fronts(e, s), fronts) || Empty(e) != naive(e, nil) {
			t.Fatalf("%v: %q", e, string(s))
		}
	}
}
