package word

import (
	"cmp"
	"slices"
	"strings"

	"gobo/api"
	"gobo/decode"
)

// The ends of the surrogates, which are no runes.
const (
	surrogate = 0xD800
	above     = 0xE000
)

// class reads what stands between [ and ].
type class struct {
	items []api.Item
	at    int // the Item that is next
	end   int // of the text
}

// Class is the set that s describes.
func Class(s string) (set []api.Range, code, at int) {
	defer func() {
		if f, ok := recover().(fault); ok {
			set, code, at = nil, f.code, f.at
		}
	}()
	c := &class{items: decode.All([]byte(s)), end: len(s)}
	others := c.peek() == '^'
	if others {
		c.at++
	}
	var l []api.Range
	for len(l) == 0 || c.at < len(c.items) {
		l = append(l, c.element())
	}
	set = joined(l)
	if others {
		set = rest(set)
	}
	if len(set) == 0 {
		c.fail()
	}
	return set, api.OK, 0
}

// fail throws that the next rune, or the end, can't stand here.
func (c *class) fail() {
	at := c.end
	if c.at < len(c.items) {
		at = c.items[c.at].From
	}
	panic(fault{api.ErrParse, at})
}

// peek is the next rune, or -1 where there is none.
func (c *class) peek() rune {
	if c.at == len(c.items) || c.items[c.at].Bad {
		return -1
	}
	return c.items[c.at].Rune
}

// take is the next rune, which must be one that may stand here.
func (c *class) take(may func(rune) bool) rune {
	r := c.peek()
	if r < 0 || !may(r) {
		c.fail()
	}
	c.at++
	return r
}

// element reads a rune, or two with a - between.
func (c *class) element() api.Range {
	lo := c.letter()
	if c.peek() != '-' {
		return api.Range{Lo: lo, Hi: lo}
	}
	c.at++
	second := c.at
	hi := c.letter()
	if hi < lo {
		c.at = second
		c.fail()
	}
	return api.Range{Lo: lo, Hi: hi}
}

// letter reads a rune, escaped or not.
func (c *class) letter() rune {
	r := c.take(func(r rune) bool { return r >= ' ' && !strings.ContainsRune("/|*()[]-", r) })
	if r != '\\' {
		return r
	}
	r = c.take(func(r rune) bool { return strings.ContainsRune(`nrtu/|*()[]\.-^{}`, r) })
	switch r {
	case 'n':
		return '\n'
	case 'r':
		return '\r'
	case 't':
		return '\t'
	case 'u':
		return c.number()
	}
	return r
}

// number reads the {HEX} behind \u. A digit can't stand where the number would
// be no longer one of a rune, and the } not where it is one of a surrogate.
func (c *class) number() rune {
	c.take(func(r rune) bool { return r == '{' })
	var n rune
	for count := 0; count == 0 || c.peek() != '}'; count++ {
		d := c.take(func(r rune) bool { return count < 6 && digit(r) >= 0 && n*16+digit(r) <= api.MaxRune })
		n = n*16 + digit(d)
	}
	if n >= surrogate && n < above {
		c.fail()
	}
	c.at++
	return n
}

// digit is the value of a digit, or -1.
func digit(r rune) rune {
	switch {
	case r >= '0' && r <= '9':
		return r - '0'
	case r >= 'A' && r <= 'F':
		return r - 'A' + 10
	}
	return -1
}

// behind is the rune that comes next after r.
func behind(r rune) rune {
	if r == surrogate-1 {
		return above
	}
	return r + 1
}

// ahead is the rune that comes before r.
func ahead(r rune) rune {
	if r == above {
		return surrogate - 1
	}
	return r - 1
}

// joined is l in normal form; the ends of its ranges are runes, and none
// descends.
func joined(l []api.Range) []api.Range {
	slices.SortFunc(l, func(a, b api.Range) int { return cmp.Compare(a.Lo, b.Lo) })
	var out []api.Range
	for _, x := range l {
		if n := len(out); n > 0 && x.Lo <= behind(out[n-1].Hi) {
			out[n-1].Hi = max(out[n-1].Hi, x.Hi)
		} else {
			out = append(out, x)
		}
	}
	return out
}

// rest is all runes that are not in l, which is in normal form.
func rest(l []api.Range) []api.Range {
	var out []api.Range
	var from rune
	for _, x := range l {
		if from < x.Lo {
			out = append(out, api.Range{Lo: from, Hi: ahead(x.Lo)})
		}
		from = behind(x.Hi)
	}
	if from <= api.MaxRune {
		out = append(out, api.Range{Lo: from, Hi: api.MaxRune})
	}
	return out
}
