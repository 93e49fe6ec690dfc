package mini

import (
	"math/rand"
	"slices"
	"testing"

	"gobo/api"
	"gobo/dfa"
	"gobo/nfa"
	"gobo/sample"
)

var one, set, seq, alt, star = sample.One, sample.Set, sample.Seq, sample.Alt, sample.Star

var none = api.Re{Kind: api.RNone}

func big(t *testing.T, l ...api.Re) *dfa.Dfa {
	n, code := nfa.Build(l)
	if code != api.OK {
		t.Fatal(code)
	}
	d, code := dfa.Build(n, api.MaxStates)
	if code != api.OK {
		t.Fatal(code)
	}
	return d
}

// 9.1: the example.
func TestBuild(t *testing.T) {
	m := Build(big(t, alt(seq(one('a'), one('b')), seq(one('c'), one('b')))))
	if m.Len() != 3 || len(m.Cells()) != 3 {
		t.Fatal(m.Len(), m.Cells())
	}
	for s, row := range [][3]int{{1, -1, 1}, {-1, 2, -1}, {-1, -1, -1}} {
		for cell, want := range row {
			if m.Next(s, cell) != want || m.Step(s, m.Cells()[cell].Lo) != want {
				t.Errorf("Next(%d, %d) = %d", s, cell, m.Next(s, cell))
			}
		}
	}
	if m.Rule(0) != -1 || m.Rule(1) != -1 || m.Rule(2) != 0 || m.Rule(3) != -1 || m.Rule(-1) != -1 {
		t.Error("Rule")
	}
	if m.Next(3, 0) != -1 || m.Next(-1, 0) != -1 || m.Next(0, 3) != -1 || m.Next(0, -1) != -1 || m.Step(0, 'b') != -1 || m.Step(0, 'd') != -1 || m.Step(9, 'a') != -1 || m.Step(-1, 'a') != -1 || m.Step(0, -1) != -1 {
		t.Error("Next")
	}
	m.Cells()[0].Lo = 'q'
	if m.Cells()[0].Lo != 'a' {
		t.Error("shared")
	}
}

// 9.1: dead states are gone, but the first one stays.
func TestDead(t *testing.T) {
	m := Build(big(t, seq(one('a'), none)))
	if m.Len() != 1 || len(m.Cells()) != 1 || m.Next(0, 0) != -1 || m.Step(0, 'a') != -1 || m.Rule(0) != -1 {
		t.Error(m)
	}
	m = Build(big(t, alt(one('a'), seq(one('b'), seq(one('c'), none)))))
	if m.Len() != 2 || m.Step(0, 'a') != 1 || m.Step(0, 'b') != -1 || m.Rule(1) != 0 {
		t.Error(m)
	}
	if m = Build(big(t, none)); m.Len() != 1 || len(m.Cells()) != 0 {
		t.Error(m)
	}
}

// 9.1: states with other Rules stay apart, and surrogates step nowhere.
func TestApart(t *testing.T) {
	m := Build(big(t, one('a'), one('b'), set('a', 'c')))
	if m.Len() != 4 || m.Rule(m.Step(0, 'a')) != 0 || m.Rule(m.Step(0, 'b')) != 1 || m.Rule(m.Step(0, 'c')) != 2 {
		t.Error(m)
	}
	m = Build(big(t, star(set(0xD000, 0xF000))))
	if m.Len() != 1 || m.Step(0, 0xD7FF) != 0 || m.Step(0, 0xD800) != -1 || m.Step(0, 0xE000) != 0 || m.Rule(0) != 0 {
		t.Error(m)
	}
}

// 9.1: no automaton.
func TestNil(t *testing.T) {
	if Build(new(dfa.Dfa)).Step(0, 'a') != -1 {
		t.Error("one of nothing")
	}
	m := Build(nil)
	if m != nil || m.Len() != 0 || len(m.Cells()) != 0 || m.Next(0, 0) != -1 || m.Step(0, 'a') != -1 || m.Rule(0) != -1 {
		t.Error("nil")
	}
}

// differ reports whether a string leads s and o of m to other Rules: it walks all pairs that strings reach.
func differ(m *Mini, s, o int) bool {
	seen := map[[2]int]int{}
	work := [][2]int{{s, o}}
	for len(work) > 0 {
		p := work[0]
		work = work[1:]
		if seen[p] > 0 {
			continue
		}
		seen[p] = 1
		if m.Rule(p[0]) != m.Rule(p[1]) {
			return true
		}
		for cell := range m.Cells() {
			work = append(work, [2]int{m.Next(p[0], cell), m.Next(p[1], cell)})
		}
	}
	return false
}

// 9.1, 9.2: the same Rules as before for all strings; any two states differ, each is found in order, and is alive.
func TestAny(t *testing.T) {
	r := rand.New(rand.NewSource(9))
	for i := 0; i < 500; i++ {
		d := big(t, sample.Re(r.Intn, 4), sample.Re(r.Intn, 4))
		m := Build(d)
		if !slices.Equal(m.Cells(), d.Cells()) {
			t.Fatal("cells")
		}
		for k := 0; k < 20; k++ {
			s, o := 0, 0
			for n := 0; n < 7; n++ {
				if m.Rule(s) != d.Rule(o) {
					t.Fatal("another Rule")
				}
				x := rune("abcd"[r.Intn(4)])
				s, o = m.Step(s, x), d.Step(o, x)
			}
		}
		found := 1
		for s := 0; s < m.Len(); s++ {
			if s > 0 && !differ(m, s, -1) {
				t.Fatal("dead")
			}
			for o := 0; o < s; o++ {
				if !differ(m, s, o) {
					t.Fatal("two states are one")
				}
			}
			for cell := range m.Cells() {
				if to := m.Next(s, cell); to > found {
					t.Fatal("order")
				} else if to == found {
					found++
				}
			}
		}
		if found != m.Len() {
			t.Fatal("states that are not found")
		}
	}
}
