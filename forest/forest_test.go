package forest

import (
	"math"
	"math/rand"
	"slices"
	"testing"

	"gobo/api"
)

// word makes symbols: ( is a Call, ) a Return, ? of no kind, and all else Internal.
func word(s string) []api.Sym {
	var l []api.Sym
	for _, c := range s {
		l = append(l, api.Sym{Tok: int(c) % api.MaxTokens, Kind: map[rune]int{'(': api.Call, ')': api.Return, '?': 77}[c]})
	}
	return l
}

// 15.1: what is a symbol.
func TestMay(t *testing.T) {
	for _, x := range []struct {
		s    api.Sym
		want bool
	}{{api.Sym{Tok: -1}, true}, {api.Sym{Tok: api.MaxTokens - 1, Kind: api.Return}, true}, {api.Sym{Tok: -1, Kind: api.Call}, true}, {api.Sym{Tok: -2}, false}, {api.Sym{Tok: api.MaxTokens}, false}, {api.Sym{Kind: 3}, false}, {api.Sym{Kind: -1}, false}, {api.Sym{Tok: math.MinInt, Kind: math.MaxInt}, false}} {
		if May([]api.Sym{x.s}) != x.want || May([]api.Sym{{}, x.s, {}}) != x.want {
			t.Error(x)
		}
	}
	if !May(nil) {
		t.Error("nothing")
	}
}

// 15.1: partners, and what has none.
func TestPairs(t *testing.T) {
	for _, x := range []struct {
		s          string
		pairs      []int
		open, lost []int
		well       bool
		deep       int
	}{
		{"", nil, nil, nil, true, 0}, {"())", []int{1, 0, -1}, nil, []int{2}, false, 1}, {")(", []int{-1, -1}, []int{1}, []int{0}, false, 1}, {"()", []int{1, 0}, nil, nil, true, 1}, {"(()", []int{-1, 2, 1}, []int{0}, nil, false, 2},
		{"a?b", []int{-1, -1, -1}, nil, nil, true, 0}, {"(a(?)b)", []int{6, -1, 4, -1, 2, -1, 0}, nil, nil, true, 2}, {"()(())", []int{1, 0, 5, 4, 3, 2}, nil, nil, true, 2}, {"))((", []int{-1, -1, -1, -1}, []int{2, 3}, []int{0, 1}, false, 2}, {"(()))(", []int{3, 2, 1, 0, -1, -1}, []int{5}, []int{4}, false, 2},
	} {
		l := word(x.s)
		if !slices.Equal(Pairs(l), x.pairs) || !slices.Equal(Open(l), x.open) || !slices.Equal(Lost(l), x.lost) || Well(l) != x.well || Deep(l) != x.deep {
			t.Errorf("%q: %v %v %v %v %d", x.s, Pairs(l), Open(l), Lost(l), Well(l), Deep(l))
		}
	}
}

// 15.2: as they are nested: what stands between partners is balanced, and no Call ahead of a lost Return is open.
func TestAny(t *testing.T) {
	r := rand.New(rand.NewSource(15))
	for i := 0; i < 3000; i++ {
		s := ""
		for n := r.Intn(12); n > 0; n-- {
			s += string("(()a)?"[r.Intn(6)])
		}
		l := word(s)
		pairs := Pairs(l)
		for k, p := range pairs {
			switch {
			case p < 0:
			case pairs[p] != k || l[min(k, p)].Kind != api.Call || l[max(k, p)].Kind != api.Return || !Well(l[min(k, p)+1:max(k, p)]):
				t.Fatalf("%q: %v", s, pairs)
			}
			if p < 0 && l[k].Kind == api.Return && len(Open(l[:k])) > 0 {
				t.Fatalf("%q: %v", s, pairs)
			}
		}
		deep := 0
		for k := range l {
			deep = max(deep, len(Open(l[:k+1])))
		}
		if Deep(l) != deep {
			t.Fatalf("%q: %d", s, Deep(l))
		}
	}
}
