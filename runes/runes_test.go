package runes

import (
	"math/rand"
	"slices"
	"testing"

	"gobo/api"
)

// set makes ranges of ends, two by two.
func set(ends ...rune) []api.Range {
	var l []api.Range
	for i := 0; i < len(ends); i += 2 {
		l = append(l, api.Range{Lo: ends[i], Hi: ends[i+1]})
	}
	return l
}

const lowest, highest = -1 << 31, 1<<31 - 1

// 5.1: what is in normal form.
func TestMay(t *testing.T) {
	for _, x := range []struct {
		l    []api.Range
		want bool
	}{
		{nil, true}, {set('a', 'd'), true}, {set('a', 'a', 'c', 'c'), true}, {set(0, api.MaxRune), true}, {set(0xD7FF, 0xE000), true}, {set(0, 0xD7FE, 0xE000, 0xE000), true}, {set(0, 0xD7FF, 0xE001, 0xE001), true},
		{set('a', 'c', 'b', 'd'), false}, {set('a', 'b', 'c', 'd'), false}, {set('b', 'a'), false}, {set('c', 'c', 'a', 'a'), false}, {set('a', 'a', 'a', 'a'), false},
		{set(0, 0xD7FF, 0xE000, 0xE000), false}, {set(0xD800, 0xE000), false}, {set(0xD7FF, 0xDFFF), false}, {set(0xD800, 0xD800), false}, {set(-1, 5), false}, {set(5, api.MaxRune+1), false}, {set(lowest, highest), false},
	} {
		if May(x.l) != x.want {
			t.Errorf("May(%x)", x.l)
		}
	}
}

// 5.1: normal forms.
func TestNorm(t *testing.T) {
	for _, x := range []struct{ l, want []api.Range }{
		{nil, nil}, {set('a', 'c', 'b', 'd'), set('a', 'd')}, {set('c', 'd', 'a', 'b'), set('a', 'd')}, {set('a', 'z', 'b', 'c'), set('a', 'z')}, {set('b', 'a'), nil},
		{set(0xD000, 0xDA00), set(0xD000, 0xD7FF)}, {set(0xD800, 0xDFFF), nil}, {set(0xD900, 0xE001), set(0xE000, 0xE001)}, {set(0xD7FF, 0xD7FF, 0xE000, 0xE000), set(0xD7FF, 0xE000)}, {set(0xDFFF, 0xD800), nil},
		{set(lowest, highest), set(0, api.MaxRune)}, {set(lowest, -1), nil}, {set(api.MaxRune+1, highest), nil}, {set(-5, 0), set(0, 0)}, {set(api.MaxRune, highest), set(api.MaxRune, api.MaxRune)}, {set(highest, lowest), nil}, {set(5, -1), nil},
	} {
		if got := Norm(x.l); !Same(got, x.want) {
			t.Errorf("Norm(%x) = %x, want %x", x.l, got, x.want)
		}
	}
}

// 5.2: Has, with surrogates and numbers that are no runes.
func TestHas(t *testing.T) {
	all := set(lowest, highest)
	for _, x := range []struct {
		l    []api.Range
		r    rune
		want bool
	}{
		{set(0xD000, 0xF000), 0xD900, false}, {set(0xD000, 0xF000), 0xE000, true}, {all, -1, false}, {all, api.MaxRune + 1, false}, {all, api.MaxRune, true}, {all, 0, true}, {all, 0xD800, false}, {all, 0xDFFF, false},
		{nil, 'a', false}, {set('b', 'c', 'a', 'a'), 'a', true}, {set('c', 'a'), 'b', false}, {set('a', 'c'), 'd', false},
	} {
		if Has(x.l, x.r) != x.want {
			t.Errorf("Has(%x, %x)", x.l, x.r)
		}
	}
}

// 5.2: union, intersection, complement and count of the chapter.
func TestOps(t *testing.T) {
	a, b := set('a', 'f', 'p', 'p'), set('c', 'h')
	for i, x := range []struct{ got, want []api.Range }{
		{Or(a, b), set('a', 'h', 'p', 'p')}, {And(a, b), set('c', 'f')}, {Not(b), set(0, 'b', 'i', api.MaxRune)}, {Or(set('a', 'c'), set('b', 'd')), set('a', 'd')},
		{Not(nil), set(0, api.MaxRune)}, {Not(set(lowest, highest)), nil}, {Not(set(0, 0xD7FF)), set(0xE000, api.MaxRune)}, {Not(set(0xD7FF, 0xE000)), set(0, 0xD7FE, 0xE001, api.MaxRune)},
		{Or(nil, nil), nil}, {And(nil, a), nil}, {And(set(0xD000, 0xD900), set(0xD700, 0xF000)), set(0xD700, 0xD7FF)},
	} {
		if !Same(x.got, x.want) {
			t.Errorf("%d: %x, want %x", i, x.got, x.want)
		}
	}
	for _, x := range []struct {
		l    []api.Range
		want int
	}{{set('a', 'c', 'b', 'd'), 4}, {set(0xD7FF, 0xE000), 2}, {nil, 0}, {set(lowest, highest), 0x110000 - 0x800}, {set('b', 'a'), 0}} {
		if Count(x.l) != x.want {
			t.Errorf("Count(%x) = %d", x.l, Count(x.l))
		}
	}
}

// 5.3: cells.
func TestCuts(t *testing.T) {
	for _, x := range []struct {
		l    [][]api.Range
		want []api.Range
	}{
		{nil, nil}, {[][]api.Range{nil, nil}, nil},
		{[][]api.Range{set('a', 'f', 'p', 'p'), set('c', 'h')}, set('a', 'b', 'c', 'f', 'g', 'h', 'p', 'p')},
		{[][]api.Range{set('a', 'c', 'd', 'f')}, set('a', 'f')},
		{[][]api.Range{set('a', 'c'), set('d', 'f')}, set('a', 'c', 'd', 'f')},
		{[][]api.Range{set('a', 'f'), set('a', 'f')}, set('a', 'f')},
		{[][]api.Range{set('a', 'c'), set('e', 'f')}, set('a', 'c', 'e', 'f')},
		{[][]api.Range{set(0xD000, 0xF000), set(0xD000, 0xD7FF)}, set(0xD000, 0xD7FF, 0xE000, 0xF000)},
		{[][]api.Range{set(0xD000, 0xF000), set(0xD900, 0xDA00)}, set(0xD000, 0xF000)},
		{[][]api.Range{set('z', 'a'), set(lowest, highest)}, set(0, api.MaxRune)},
	} {
		if got := Cuts(x.l); !Same(got, x.want) {
			t.Errorf("Cuts(%x) = %x, want %x", x.l, got, x.want)
		}
	}
}

// 5.3: Same is element by element, not by what is in the sets.
func TestSame(t *testing.T) {
	a := set('a', 'c')
	if !Same(a, a) || !Same(nil, []api.Range{}) || Same(a, nil) || Same(a, set('a', 'b', 'c', 'c')) || Same(set('b', 'a'), set('d', 'c')) {
		t.Error("Same")
	}
}

// around is scalar values at which something may change.
func around() []rune {
	return []rune{0, 1, 2, 3, 4, 5, 6, 7, 0xD7FD, 0xD7FE, 0xD7FF, 0xE000, 0xE001, 0xE002, api.MaxRune - 1, api.MaxRune}
}

func some(r *rand.Rand) []api.Range {
	ends := []rune{-3, 0, 1, 2, 3, 4, 5, 6, 0xD7FE, 0xD7FF, 0xD800, 0xDA00, 0xDFFF, 0xE000, 0xE001, api.MaxRune - 1, api.MaxRune, api.MaxRune + 1}
	var l []api.Range
	for n := r.Intn(4); n > 0; n-- {
		l = append(l, api.Range{Lo: ends[r.Intn(len(ends))], Hi: ends[r.Intn(len(ends))]})
	}
	return l
}

// 5.1 to 5.4: of any lists, the answers are normal forms of what they should hold.
func TestAny(t *testing.T) {
	r := rand.New(rand.NewSource(5))
	for i := 0; i < 5000; i++ {
		a, b := some(r), some(r)
		keep := slices.Clone(a)
		n, or, and, not := Norm(a), Or(a, b), And(a, b), Not(a)
		if !May(n) || !May(or) || !May(and) || !May(not) || May(a) && !Same(a, n) || !Same(Norm(n), n) {
			t.Fatalf("%x %x: no normal form", a, b)
		}
		if Count(or)+Count(and) != Count(a)+Count(b) || Count(not)+Count(a) != 0x110000-0x800 {
			t.Fatalf("%x %x: counts", a, b)
		}
		cells := Cuts([][]api.Range{a, b})
		for _, x := range around() {
			p, q := Has(a, x), Has(b, x)
			if Has(n, x) != p || Has(or, x) != (p || q) || Has(and, x) != (p && q) || Has(not, x) == p || Has(cells, x) != (p || q) {
				t.Fatalf("%x %x: %x", a, b, x)
			}
		}
		for _, c := range cells {
			one := []api.Range{c}
			for _, s := range [][]api.Range{a, b} {
				if k := Count(And(one, s)); k != 0 && k != Count(one) {
					t.Fatalf("%x %x: cell %x", a, b, c)
				}
			}
		}
		if !Same(a, keep) {
			t.Fatal("argument changed")
		}
	}
}
