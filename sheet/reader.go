package sheet

import (
	"gobo/api"
	"gobo/decode"
)

// Reader reads the tokens of bytes, each when it is asked for.
type Reader struct {
	one   func(items []api.Item, at int) (api.Lex, int)
	items []api.Item
	at    int // the Item that is next
	from  int // where the Items begin in the document
}

// Read is a Reader of the tokens of b from from on, where one begins. Which
// token begins with an Item, and how many Items it has, is told by one.
func Read(b []byte, from int, one func(items []api.Item, at int) (api.Lex, int)) *Reader {
	return &Reader{one: one, items: decode.All(b[from:]), from: from}
}

// Next is the next token, and whether its bytes are no rune; false: there is
// none.
func (r *Reader) Next() (lex api.Lex, bad, ok bool) {
	lex, size := r.one(r.items, r.at)
	if size == 0 {
		return api.Lex{}, false, false
	}
	bad = r.items[r.at].Bad
	r.at += size
	lex.From += r.from
	lex.To += r.from
	lex.Look += r.from
	return lex, bad, true
}
