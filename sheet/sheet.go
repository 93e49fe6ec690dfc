// Package sheet is what emit, feed and session share: it reads the tokens of
// bytes one by one, and gathers what a document comes to, token by token.
package sheet

import (
	"cmp"
	"slices"

	"gobo/api"
)

// Token is a token of a document, with what is known of it.
type Token struct {
	Lex   api.Lex
	Sym   api.Sym
	Bad   bool // its bytes are no rune
	Class int
	State int // of the automaton, ahead of it
	Call  int // of a Return: where its Call begins, or -1
}

// call is a Call that is open.
type call struct {
	api.Lex
	line int // that it begins on
}

// Sheet gathers the tokens of a document, which come one directly behind
// another.
type Sheet struct {
	out    api.Out
	open   []call
	begins bool // a line begins at end
	end    int  // of the last token
	far    int  // the greatest Look
}

// New is a Sheet without tokens.
func New() *Sheet {
	return &Sheet{begins: true}
}

// Add takes the next token; text is its bytes. Lines that begin in it are
// processed from its beginning, so what stands ahead of it is noted for them.
func (s *Sheet) Add(t Token, text []byte) {
	last := len(text) - 1
	line := len(s.out.Checks) - 1
	if s.begins {
		line++
		s.check(t.State)
	}
	for i, c := range text {
		if c == '\n' && i < last {
			s.check(t.State)
		}
	}
	s.begins = text[last] == '\n'
	s.end = t.Lex.To
	s.far = max(s.far, t.Lex.Look)
	s.out.Spans = append(s.out.Spans, api.Span{From: t.Lex.From, To: t.Lex.To, Tok: t.Sym.Tok, Class: t.Class})
	s.diags(t)
	s.nest(t, line)
}

// check notes a line that begins behind the last token, or in the next one.
func (s *Sheet) check(state int) {
	s.out.Checks = append(s.out.Checks, api.Check{Line: len(s.out.Checks), Anchor: s.end, Far: s.far, State: state, Calls: s.Calls()})
}

// Calls is where the Calls that are open begin.
func (s *Sheet) Calls() []int {
	var l []int
	for _, c := range s.open {
		l = append(l, c.From)
	}
	return l
}

// Top is where the last Call that is open begins, or -1.
func (s *Sheet) Top() int {
	if len(s.open) == 0 {
		return -1
	}
	return s.open[len(s.open)-1].From
}

// diag notes a diagnostic of a token.
func (s *Sheet) diag(kind int, lex api.Lex) {
	s.out.Diags = append(s.out.Diags, api.Diag{Kind: kind, From: lex.From, To: lex.To})
}

// diags notes what is wrong with a token by itself, in the order of the kinds.
func (s *Sheet) diags(t Token) {
	if t.Bad {
		s.diag(api.DBad, t.Lex)
	}
	if t.Sym.Tok < 0 {
		s.diag(api.DErr, t.Lex)
	}
	if t.Sym.Kind == api.Return && t.Call < 0 {
		s.diag(api.DRet, t.Lex)
	}
}

// nest notes a Call, or the match that a Return ends; the token begins on line.
func (s *Sheet) nest(t Token, line int) {
	if t.Sym.Kind == api.Call {
		s.open = append(s.open, call{t.Lex, line})
	}
	if t.Sym.Kind != api.Return || t.Call < 0 || len(s.open) == 0 {
		return
	}
	c := s.open[len(s.open)-1]
	s.open = s.open[:len(s.open)-1]
	s.out.Matches = append(s.out.Matches, api.Match{Call: t.Call, Ret: t.Lex.From})
	if c.line != line {
		s.out.Folds = append(s.out.Folds, api.Fold{First: c.line, Last: line, Call: t.Call, Ret: t.Lex.From})
	}
}

// Out is what the tokens come to so far; state is that behind the last one.
func (s *Sheet) Out(state int) api.Out {
	now := *s
	if now.begins {
		now.check(state)
	}
	return Copy(now.out)
}

// Whole is what all tokens come to, now that there is none behind the last
// one. The Sheet must not be used any more.
func (s *Sheet) Whole(state int) api.Out {
	if s.begins {
		s.check(state)
	}
	for _, c := range s.open {
		s.diag(api.DCall, c.Lex)
	}
	slices.SortFunc(s.out.Diags, func(a, b api.Diag) int { return cmp.Or(cmp.Compare(a.From, b.From), cmp.Compare(a.Kind, b.Kind)) })
	return s.out
}

// Copy is a copy of o that shares nothing with it.
func Copy(o api.Out) api.Out {
	checks := slices.Clone(o.Checks)
	for i := range checks {
		checks[i].Calls = slices.Clone(checks[i].Calls)
	}
	return api.Out{Spans: slices.Clone(o.Spans), Matches: slices.Clone(o.Matches), Folds: slices.Clone(o.Folds), Diags: slices.Clone(o.Diags), Checks: checks}
}
