package lexer

import (
	"slices"
	"strconv"

	"gobo/api"
	"gobo/regex"
)

// Model is One, by what regex says of the expressions alone.
func Model(l []api.Re, items []api.Item, at int) (lex api.Lex, size int) {
	defer func() {
		if _, ok := recover().(fault); ok {
			lex, size = api.Lex{}, 0
		}
	}()
	readers := open(l)
	if at < 0 || at >= len(items) {
		need(api.ErrRange)
	}
	rule, size, stopped, last := -1, 1, false, at
	for i := at; i < len(items) && !stopped; i++ {
		last = i
		stopped = true
		for k := len(readers) - 1; k >= 0; k-- { // downwards, so that the smallest index stays
			readers[k].read(items[i])
			if readers[k].matches() {
				rule, size = k, i-at+1
			}
			stopped = stopped && !readers[k].goesOn()
		}
	}
	return token(items, at, size, rule, items[last], stopped), size
}

// open makes a reader of each expression.
func open(l []api.Re) []*reader {
	valid := func(e api.Re) bool { return regex.May(e) && !regex.Empty(e) }
	if len(l) == 0 || len(l) > api.MaxTokens {
		need(api.ErrArg)
	}
	var readers []*reader
	for _, e := range l {
		if !valid(e) {
			need(api.ErrArg)
		}
		r := &reader{}
		r.rests = [][]int{{r.add(e)}}
		readers = append(readers, r)
	}
	return readers
}

// part is a part of an expression.
type part struct {
	e     api.Re
	parts []int
	empty bool // it matches the empty string
	some  bool // it matches any string at all
}

// reader reads a string; a rest is a list of parts that must match, one behind
// another, what is still to come. The string matches if one of the rests may
// be empty, and goes on to a match if one of them matches anything.
type reader struct {
	parts []part
	rests [][]int
}

// add lays out e and its parts, and answers the number of e.
func (r *reader) add(e api.Re) int {
	p := part{e: e, empty: regex.Empty(e)}
	for _, inner := range e.L {
		p.parts = append(p.parts, r.add(inner))
	}
	some := func(at int) bool { return r.parts[at].some }
	switch e.Kind {
	case api.RNone:
	case api.RSeq:
		p.some = some(p.parts[0]) && some(p.parts[1])
	case api.RAlt:
		p.some = slices.ContainsFunc(p.parts, some)
	default:
		p.some = true
	}
	r.parts = append(r.parts, p)
	return len(r.parts) - 1
}

// read makes the rests behind an Item.
func (r *reader) read(item api.Item) {
	before := r.rests
	r.rests = nil
	if item.Bad {
		return
	}
	found := map[string]int{}
	add := func(rest []int) {
		if k := key(rest); found[k] == 0 {
			found[k] = 1
			r.rests = append(r.rests, rest)
		}
	}
	for _, rest := range before {
		for i, at := range rest {
			r.take(at, rest[i+1:], item.Rune, add)
			if !r.parts[at].empty {
				break
			}
		}
	}
}

// take adds the rests where the part at reads x, and behind comes next.
func (r *reader) take(at int, behind []int, x rune, add func([]int)) {
	p := r.parts[at]
	switch p.e.Kind {
	case api.RSet:
		if regex.Is(p.e, []rune{x}) {
			add(behind)
		}
	case api.RSeq:
		r.take(p.parts[0], slices.Concat(p.parts[1:], behind), x, add)
		if r.parts[p.parts[0]].empty {
			r.take(p.parts[1], behind, x, add)
		}
	case api.RAlt:
		r.take(p.parts[0], behind, x, add)
		r.take(p.parts[1], behind, x, add)
	case api.RStar:
		r.take(p.parts[0], slices.Concat([]int{at}, behind), x, add)
	}
}

// key is a rest as the key of a map.
func key(rest []int) string {
	var b []byte
	for _, at := range rest {
		b = append(strconv.AppendInt(b, int64(at), 10), ' ')
	}
	return string(b)
}

// matches reports whether what was read matches.
func (r *reader) matches() bool {
	return r.any(func(p part) bool { return p.empty })
}

// goesOn reports whether a match begins with what was read.
func (r *reader) goesOn() bool {
	return r.any(func(p part) bool { return p.some })
}

// any reports whether all parts of one of the rests are like that.
func (r *reader) any(like func(part) bool) bool {
	return slices.ContainsFunc(r.rests, func(rest []int) bool {
		return !slices.ContainsFunc(rest, func(at int) bool { return !like(r.parts[at]) })
	})
}
