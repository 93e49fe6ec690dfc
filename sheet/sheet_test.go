package sheet

import (
	"slices"
	"testing"

	"gobo/api"
)

// add adds a token of that kind with text behind what s has.
func add(s *Sheet, kind int, text string, state int) {
	t := Token{Lex: api.Lex{From: s.end, To: s.end + len(text), Look: s.end + len(text) + 1}, Sym: api.Sym{Tok: kind, Kind: kind}, State: state, Call: -1}
	if kind == api.Return {
		t.Call = s.Top()
	}
	s.Add(t, []byte(text))
}

// What stands ahead of a token is noted for the lines that begin in it; what is told so far stays as it is.
func TestSheet(t *testing.T) {
	s := New()
	if got := s.Out(7); len(got.Checks) != 1 || got.Checks[0].State != 7 || s.Top() != -1 {
		t.Error(got)
	}
	add(s, api.Call, "o", 1)
	add(s, api.Internal, "\nx\n", 2)
	early := s.Out(3)
	if len(early.Checks) != 3 || early.Checks[0].State != 1 || early.Checks[1].State != 2 || early.Checks[1].Anchor != 1 || early.Checks[2].State != 3 || early.Checks[2].Anchor != 4 || early.Checks[2].Far != 5 || len(early.Diags) != 0 || s.Top() != 0 {
		t.Error(early)
	}
	early.Checks[1].Calls[0], early.Spans[0].Tok = 9, 9
	add(s, api.Return, "c", 3)
	add(s, api.Return, "c", 4)
	add(s, api.Call, "o", 5)
	got := s.Whole(6)
	if !slices.Equal(got.Folds, []api.Fold{{First: 0, Last: 2, Call: 0, Ret: 4}}) || !slices.Equal(got.Diags, []api.Diag{{Kind: api.DRet, From: 5, To: 6}, {Kind: api.DCall, From: 6, To: 7}}) || got.Checks[1].Calls[0] != 0 || got.Spans[0].Tok != api.Call || len(got.Checks) != 3 || early.Checks[2].State != 3 {
		t.Error(got)
	}
}

// Tokens are read one by one from where they begin.
func TestRead(t *testing.T) {
	asked := 0
	r := Read([]byte("a\xff\xffé"), 1, func(items []api.Item, at int) (api.Lex, int) {
		asked++
		if at == len(items) {
			return api.Lex{}, 0
		}
		return api.Lex{Rule: at, From: items[at].From, To: items[at].To, Look: items[at].To}, 1
	})
	if lex, bad, ok := r.Next(); lex != (api.Lex{Rule: 0, From: 1, To: 2, Look: 2}) || !bad || !ok || asked != 1 {
		t.Error(lex, bad, ok)
	}
	r.Next()
	if lex, bad, ok := r.Next(); lex != (api.Lex{Rule: 2, From: 3, To: 5, Look: 5}) || bad || !ok {
		t.Error(lex, bad, ok)
	}
	if lex, bad, ok := r.Next(); lex != (api.Lex{}) || bad || ok {
		t.Error(lex, bad, ok)
	}
}
