package session

import (
	"bytes"
	"math"
	"math/rand"
	"slices"
	"strings"
	"testing"

	"gobo/api"
	"gobo/check"
	"gobo/compile"
	"gobo/driver"
	"gobo/emit"
	"gobo/lexer"
	"gobo/lines"
)

const source = `tok a int 1 = /aa*/
tok x int 2 = /xxxy|x/
tok o call 3 = /o/
tok p call 3 = /p/
tok c ret 4 = /c/
tok nl int 5 = /\n/
tok long int 6 = /"[^"]*"/
rule 10 free ^ {o} {a}
rule 11 _ {x} ({nl} _)*
rule 12 free ^ {o} _ ^ {p} _ {a}
`

// bare has no token for line ends.
const bare = "tok a int 1 = /a/\ntok o call 3 = /o/\ntok c ret 4 = /c/\nrule 10 free ^ {o} {a}\n"

func tables(t *testing.T, s string) *compile.Tables {
	t.Helper()
	x, code, at := compile.Source(s, api.MaxStates)
	if code != api.OK {
		t.Fatal(code, at)
	}
	return x
}

// 25.1: errors of New, and no session.
func TestNew(t *testing.T) {
	x := tables(t, source)
	for i, w := range []struct {
		t    *compile.Tables
		size int
		want int
	}{{nil, 0, api.ErrArg}, {nil, api.MaxDoc + 1, api.ErrArg}, {x, api.MaxDoc + 1, api.ErrLimit}, {x, api.MaxDoc, api.OK}, {x, 0, api.OK}} {
		s, code := New(w.t, make([]byte, w.size))
		if code != w.want || (s == nil) != (code != api.OK) {
			t.Errorf("%d: %d", i, code)
		}
	}
	var no *Session
	if n, m := no.Work(); no.Edit(api.Edit{At: -1}) != api.ErrState || len(no.Bytes()) != 0 || len(no.Lines()) != 0 || n != 0 || m != 0 || !emit.Same(no.Out(), api.Out{}) {
		t.Error("nil")
	}
}

// 25.1: errors of Edit change nothing.
func TestErrors(t *testing.T) {
	b := []byte("oa\nc\n")
	s, _ := New(tables(t, source), b)
	b[0] = 'x'
	want := s.Out()
	big := make([]byte, api.MaxDoc)
	for i, x := range []struct{ at, del, ins, code int }{
		{-1, 0, 0, api.ErrRange}, {0, -1, 0, api.ErrRange}, {6, 0, 0, api.ErrRange}, {5, 1, 0, api.ErrRange}, {0, 6, 0, api.ErrRange}, {3, math.MaxInt, 0, api.ErrRange}, {math.MaxInt, math.MaxInt, 0, api.ErrRange}, {math.MinInt, 0, 0, api.ErrRange}, {6, 0, api.MaxDoc, api.ErrRange},
		{0, 0, api.MaxDoc - 4, api.ErrLimit}, {5, 0, api.MaxDoc, api.ErrLimit}, {0, 1, api.MaxDoc - 3, api.ErrLimit},
	} {
		code := s.Edit(api.Edit{At: x.at, Del: x.del, Ins: big[:x.ins]})
		n, m := s.Work()
		if code != x.code || n != 0 || m != 0 || string(s.Bytes()) != "oa\nc\n" || !emit.Same(s.Out(), want) || !slices.Equal(s.Lines(), []int{0, 3, 5}) {
			t.Errorf("%d: %d", i, code)
		}
	}
	if code := s.Edit(api.Edit{At: 0, Del: 5, Ins: big}); code != api.OK || len(s.Bytes()) != api.MaxDoc || len(s.Out().Spans) != api.MaxDoc {
		t.Error(code)
	}
}

// 25.1: what goes out is the caller's, and what comes in is not kept.
func TestOwn(t *testing.T) {
	s, _ := New(tables(t, source), []byte("o\nac"))
	ins := []byte("o\n")
	s.Edit(api.Edit{At: 2, Ins: ins})
	ins[0] = 'x'
	s.Bytes()[0] = 'x'
	s.Lines()[1] = 9
	out := s.Out()
	out.Spans[0].Tok, out.Checks[2].Calls[0] = 9, 9
	if string(s.Bytes()) != "o\no\nac" || s.Lines()[1] != 2 || !emit.Same(s.Out(), emit.Whole(tables(t, source), []byte("o\no\nac"))) {
		t.Error("shared")
	}
}

// 25.1: the cost of the chapter's example, and of all tokens.
func TestWork(t *testing.T) {
	x := tables(t, source)
	b := []byte(strings.Repeat("axaxaxaxa\n", 50))
	s, _ := New(x, b)
	sum := 0
	for _, lex := range lexer.All(x.Lexer(), b) {
		sum += lex.Look - lex.From
	}
	if n, m := s.Work(); n > sum || m > 500 || m == 0 {
		t.Error(n, m)
	}
	for line := 1; line < 49; line += 7 {
		if s.Edit(api.Edit{At: 10*line + 4, Del: 1, Ins: []byte("a")}) != api.OK {
			t.Fatal("Edit")
		}
		if n, m := s.Work(); n > 80 || m > 30 || n == 0 || m == 0 {
			t.Error(line, n, m)
		}
	}
	if s.Edit(api.Edit{At: 9999}) != api.ErrRange {
		t.Error("Edit")
	}
	if n, m := s.Work(); n != 0 || m != 0 {
		t.Error(n, m)
	}
}

// stop is a place where a token begins, with the driver there, which knows offsets.
type stop struct {
	lex api.Lex
	d   *driver.Driver
}

func stops(x *compile.Tables, b []byte) []stop {
	d := driver.New(x.Grammar(), x.Merged())
	var l []stop
	for _, lex := range lexer.All(x.Lexer(), b) {
		l = append(l, stop{lex, d.Save()})
		tok := lex.Rule
		d.Step(tok, lex.From)
	}
	return append(l, stop{api.Lex{From: len(b), To: len(b), Look: len(b)}, d})
}

// limit is what 25.1 limits the cost of an Edit to.
func limit(x *compile.Tables, was, now []byte, e api.Edit) (int, int) {
	checks := emit.Whole(x, was).Checks
	from := checks[check.Begin(checks, e.At)].Anchor
	by := len(e.Ins) - e.Del
	fresh := stops(x, now)
	end := len(now)
	at := map[int]*driver.Driver{}
	for _, p := range fresh {
		at[p.lex.From] = p.d
	}
	old := map[int]*driver.Driver{}
	for _, p := range stops(x, was) {
		old[p.lex.From] = p.d
	}
	for _, c := range checks {
		if c.Anchor >= e.At+e.Del && at[c.Anchor+by] != nil && at[c.Anchor+by].Same(old[c.Anchor], e.At+e.Del, by) {
			end = c.Anchor + by
			break
		}
	}
	sum, n := 0, 0
	for _, p := range fresh {
		if p.lex.From >= from && p.lex.From < end {
			sum += p.lex.Look - p.lex.From
			n++
		}
	}
	return sum, n
}

// 25.1, 25.2: after any edits all is as if the document were analyzed anew, and each costs no more than it may.
func TestAny(t *testing.T) {
	r := rand.New(rand.NewSource(25))
	pieces := []string{"a", "a", "x", "xxxy", "o", "c", "o", "p", "c", "\n", "\n", "\n", "\"", "\xff", "\xe2\x82", "\xe2", "é", "z", "\r\n"}
	text := func(n int) []byte {
		var b []byte
		for ; n > 0; n-- {
			b = append(b, pieces[r.Intn(len(pieces))]...)
		}
		return b
	}
	for i := 0; i < 400; i++ {
		x := tables(t, []string{source, bare}[i%2])
		b := text(r.Intn(60))
		s, _ := New(x, b)
		for k := 0; k < 15; k++ {
			e := api.Edit{At: r.Intn(len(b) + 1), Ins: text(r.Intn(3))}
			e.Del = r.Intn(min(len(b)-e.At, 1+r.Intn(8)) + 1)
			if r.Intn(10) == 0 {
				e.Ins = bytes.Clone(b[e.At : e.At+e.Del])
			}
			now := slices.Concat(b[:e.At], e.Ins, b[e.At+e.Del:])
			if code := s.Edit(e); code != api.OK || !bytes.Equal(s.Bytes(), now) || !slices.Equal(s.Lines(), lines.Starts(now)) {
				t.Fatalf("%q %v: %d %q", b, e, code, s.Bytes())
			}
			if got, want := s.Out(), emit.Whole(x, now); !emit.Same(got, want) {
				t.Fatalf("%q %v:\n%v\n%v", b, e, got, want)
			}
			n, m := s.Work()
			if sum, count := limit(x, b, now, e); n > sum || m > count {
				t.Fatalf("%q %v: Work %d, %d, but the limit is %d, %d", b, e, n, m, sum, count)
			}
			b = now
		}
	}
}
