package det

import (
	"cmp"
	"slices"
	"strconv"

	"gobo/api"
	"gobo/vpa"
)

// entry is a way into a level: the pair's first place below, the place that
// the Call leads to, and its symbol.
type entry struct{ first, place, symbol int }

// exit is a way out of a level: from where it began and the symbol below it,
// to a place.
type exit struct{ place, symbol, to int }

// maker finds the states of a Det. What a Return leads to hangs only on the
// entries of the state below and the Call, and on the exits of the state and
// the Return; there are few of either, so that most answers are found again.
type maker struct {
	d       *Det
	v       *vpa.Vpa
	most    int
	full    bool           // there are more states than most
	found   map[string]int // the states by their pairs
	symbols []int          // that Calls leave
	entries numbers[entry]
	exits   numbers[exit]
	ins     [][]int        // of each state: the number of its entries by each Call
	outs    [][]int        // of each state: the number of its exits by each Return
	known   map[[2]int]int // the states by the numbers of entries and exits
}

// numbers gives each list a number.
type numbers[T any] struct {
	found map[string]int
	lists [][]T
}

// number is the number of l, which key tells from others.
func (n *numbers[T]) number(key string, l []T) int {
	at, old := n.found[key]
	if !old {
		at = len(n.lists)
		n.found[key] = at
		n.lists = append(n.lists, l)
	}
	return at
}

func newMaker(g api.Grammar, d *Det, most int) *maker {
	v, _ := vpa.Build(g) // g is a grammar
	m := &maker{d: d, v: v, most: most, found: map[string]int{}, known: map[[2]int]int{}}
	m.entries.found = map[string]int{}
	m.exits.found = map[string]int{}
	for p := range v.Len() {
		for _, c := range d.calls {
			for _, x := range v.Call(p, c) {
				m.symbols = append(m.symbols, x[1])
			}
		}
	}
	slices.Sort(m.symbols)
	m.symbols = slices.Compact(m.symbols)
	return m
}

// find finds all states, in the order of chapter 18, and reports whether there
// are not too many.
func (m *maker) find() bool {
	var first [][2]int
	for _, p := range m.v.Start() {
		first = append(first, [2]int{p, p})
	}
	m.add(first)
	for s := 0; s < len(m.d.states) && !m.full; s++ {
		m.steps(s)
		m.levels(s)
		m.d.backs = append(m.d.backs, nil)
		for below := 0; below <= s; below++ {
			m.returns(s, below)
		}
	}
	return !m.full
}

// steps finds what leads on from s within its level, or into another one.
func (m *maker) steps(s int) {
	pairs := m.d.states[s]
	row := []int{m.each(pairs, func(a, b int) [][2]int { return toAll(a, m.v.Int(b, -1)) })}
	for t, kind := range m.d.kinds {
		row = append(row, m.each(pairs, func(a, b int) [][2]int {
			switch kind {
			case api.Call:
				return inner(m.v.Call(b, t))
			case api.Return:
				return toAll(a, m.v.Bottom(b, t))
			}
			return toAll(a, m.v.Int(b, t))
		}))
	}
	m.d.steps = append(m.d.steps, row)
	rule := -1
	for _, pair := range pairs {
		if r := m.v.Rule(pair[1]); r >= 0 && (rule < 0 || r < rule) {
			rule = r
		}
	}
	m.d.rules = append(m.d.rules, rule)
}

// each is the state of all that from tells of the pairs.
func (m *maker) each(pairs [][2]int, from func(a, b int) [][2]int) int {
	var l [][2]int
	for _, pair := range pairs {
		l = append(l, from(pair[0], pair[1])...)
	}
	return m.add(l)
}

// toAll is the pairs of a and each place.
func toAll(a int, places []int) [][2]int {
	var l [][2]int
	for _, c := range places {
		l = append(l, [2]int{a, c})
	}
	return l
}

// inner is the pairs where a level begins behind a Call.
func inner(calls [][2]int) [][2]int {
	var l [][2]int
	for _, x := range calls {
		l = append(l, [2]int{x[0], x[0]})
	}
	return l
}

// add is the state of these pairs, which may be a new one.
func (m *maker) add(l [][2]int) int {
	slices.SortFunc(l, func(a, b [2]int) int { return cmp.Or(cmp.Compare(a[0], b[0]), cmp.Compare(a[1], b[1])) })
	l = slices.Compact(l)
	var k []byte
	for _, pair := range l {
		k = appendKey(k, pair[0], pair[1])
	}
	s, old := m.found[string(k)]
	if old {
		return s
	}
	if len(m.d.states) == m.most {
		m.full = true
		return 0
	}
	m.found[string(k)] = len(m.d.states)
	m.d.states = append(m.d.states, l)
	return len(m.d.states) - 1
}

// appendKey adds numbers to the key of a map.
func appendKey(k []byte, l ...int) []byte {
	for _, n := range l {
		k = append(strconv.AppendInt(k, int64(n), 10), ' ')
	}
	return k
}

// levels finds the ways into a level from s, and out of a level in s.
func (m *maker) levels(s int) {
	var ins, outs []int
	for _, c := range m.d.calls {
		ins = append(ins, m.waysIn(s, c))
	}
	for _, t := range m.d.rets {
		outs = append(outs, m.waysOut(s, t))
	}
	m.ins = append(m.ins, ins)
	m.outs = append(m.outs, outs)
}

// waysIn is the number of the entries from s by the Call c.
func (m *maker) waysIn(s, c int) int {
	var l []entry
	var k []byte
	for _, pair := range m.d.states[s] {
		for _, x := range m.v.Call(pair[1], c) {
			l = append(l, entry{pair[0], x[0], x[1]})
			k = appendKey(k, pair[0], x[0], x[1])
		}
	}
	return m.entries.number(string(k), l)
}

// waysOut is the number of the exits in s by the Return t.
func (m *maker) waysOut(s, t int) int {
	var l []exit
	var k []byte
	for _, pair := range m.d.states[s] {
		for _, symbol := range m.symbols {
			for _, to := range m.v.Ret(pair[1], symbol, t) {
				l = append(l, exit{pair[0], symbol, to})
				k = appendKey(k, pair[0], symbol, to)
			}
		}
	}
	return m.exits.number(string(k), l)
}

// returns finds what Returns lead to from s above below, and the other way
// round.
func (m *maker) returns(s, below int) {
	for c := range m.d.calls {
		for t := range m.d.rets {
			m.back(s, below, c, t)
			if below < s {
				m.back(below, s, c, t)
			}
		}
	}
}

// back finds what the Return with the number t leads to from s, if its Call,
// with the number c, was read in the state below.
func (m *maker) back(s, below, c, t int) {
	k := [2]int{m.ins[below][c], m.outs[s][t]}
	to, old := m.known[k]
	if !old {
		to = m.add(joined(m.entries.lists[k[0]], m.exits.lists[k[1]]))
		m.known[k] = to
	}
	m.d.backs[s] = append(m.d.backs[s], int16(to))
}

// joined is the pairs that ways in and ways out of the same level make.
func joined(in []entry, out []exit) [][2]int {
	places := map[[2]int][]int{}
	for _, x := range out {
		k := [2]int{x.place, x.symbol}
		places[k] = append(places[k], x.to)
	}
	var l [][2]int
	for _, e := range in {
		l = append(l, toAll(e.first, places[[2]int{e.place, e.symbol}])...)
	}
	return l
}
