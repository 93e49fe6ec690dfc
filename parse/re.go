package parse

import (
	"strings"

	"gobo/api"
	"gobo/decode"
	"gobo/runes"
	"gobo/word"
)

// noRunes is the runes that stand for themselves only where they are escaped.
const noRunes = `/|*()[]\.`

// expression reads an expression rune by rune.
type expression struct {
	s     string
	items []api.Item
	at    int // the Item that is next
	deep  int // how many brackets are open
}

// Re is the expression that s is the text of.
func Re(s string) (e api.Re, code, at int) {
	defer func() {
		if f, ok := recover().(fault); ok {
			e, code, at = api.Re{}, f.code, f.at
		}
	}()
	x := &expression{s: s, items: decode.All([]byte(s))}
	e = x.alts()
	if x.at < len(x.items) {
		x.fail()
	}
	return e, api.OK, 0
}

// place is where the Item with the index i begins, or the end.
func (x *expression) place(i int) int {
	if i < len(x.items) {
		return x.items[i].From
	}
	return len(x.s)
}

// fail throws that the next rune, or the end, can't stand here.
func (x *expression) fail() {
	panic(fault{api.ErrParse, x.place(x.at)})
}

// runeAt is the rune of the Item with the index i, or -1 where there is none.
func (x *expression) runeAt(i int) rune {
	if i >= len(x.items) || x.items[i].Bad {
		return -1
	}
	return x.items[i].Rune
}

// skip passes the next rune if it is r.
func (x *expression) skip(r rune) bool {
	if x.runeAt(x.at) != r {
		return false
	}
	x.at++
	return true
}

// alts reads an expression.
func (x *expression) alts() api.Re {
	a := x.alt()
	for x.skip('|') {
		a = api.Re{Kind: api.RAlt, L: []api.Re{a, x.alt()}}
	}
	return a
}

// alt reads an ALT.
func (x *expression) alt() api.Re {
	if !x.atomNext() {
		return api.Re{Kind: api.REmpty}
	}
	a := x.post()
	for x.atomNext() {
		a = api.Re{Kind: api.RSeq, L: []api.Re{a, x.post()}}
	}
	return a
}

// atomNext reports whether an ATOM begins with the next rune.
func (x *expression) atomNext() bool {
	r := x.runeAt(x.at)
	return r >= ' ' && (!strings.ContainsRune(noRunes, r) || strings.ContainsRune(`([\.`, r))
}

// post reads a POST.
func (x *expression) post() api.Re {
	a := x.atom()
	for x.skip('*') {
		a = api.Re{Kind: api.RStar, L: []api.Re{a}}
	}
	return a
}

// atom reads an ATOM, which is there.
func (x *expression) atom() api.Re {
	from := x.place(x.at)
	r := x.runeAt(x.at)
	x.at++
	switch r {
	case '(':
		return x.parens(from)
	case '[':
		return x.class(from + 1)
	case '\\':
		return x.escape(from)
	case '.':
		return set(runes.Not([]api.Range{{Lo: '\n', Hi: '\n'}}))
	}
	return set([]api.Range{{Lo: r, Hi: r}})
}

func set(l []api.Range) api.Re {
	return api.Re{Kind: api.RSet, Set: l}
}

// parens reads an expression behind its (, which is at from.
func (x *expression) parens(from int) api.Re {
	if x.deep == mostBrackets {
		panic(fault{api.ErrDeep, from})
	}
	x.deep++
	a := x.alts()
	if !x.skip(')') {
		x.fail()
	}
	x.deep--
	return a
}

// class reads a class from from, behind its [, up to the first ] that is not
// escaped. Where there is none, the end is in error if nothing else is.
func (x *expression) class(from int) api.Re {
	for x.at < len(x.items) && x.runeAt(x.at) != ']' {
		if x.runeAt(x.at) == '\\' && x.at+1 < len(x.items) {
			x.at++
		}
		x.at++
	}
	l := x.runes(from, x.place(x.at))
	if !x.skip(']') {
		x.fail()
	}
	return set(l)
}

// escape reads an escape sequence, whose \ is at from.
func (x *expression) escape(from int) api.Re {
	long := x.skip('u')
	for long && x.at < len(x.items) && x.runeAt(x.at) != '}' {
		x.at++
	}
	if x.at < len(x.items) {
		x.at++
	}
	return set(x.runes(from, x.place(x.at)))
}

// runes is the set that the text from from to to describes as a class. Escape
// sequences are the same in a class and out of it.
func (x *expression) runes(from, to int) []api.Range {
	l, code, at := word.Class(x.s[from:to])
	if code != api.OK {
		panic(fault{code, from + at})
	}
	return l
}
