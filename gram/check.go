package gram

import (
	"slices"

	"gobo/api"
	"gobo/regex"
)

// fault is thrown by the first error of a grammar: its number, and where.
type fault struct{ code, at int }

// checker looks a grammar through.
type checker struct {
	g    api.Grammar
	need func(ok bool, code int) // throws code, where the checker is, unless ok
}

// Check is the first error of g, and the token or rule that it is in.
func Check(g api.Grammar) (code, place int) {
	defer func() {
		if f, ok := recover().(fault); ok {
			code, place = f.code, f.at
		}
	}()
	at := 0
	c := checker{g, func(ok bool, code int) {
		if !ok {
			panic(fault{code, at})
		}
	}}
	c.need(len(g.Tokens) >= 1 && len(g.Tokens) <= api.MaxTokens, api.ErrLimit)
	for at = range g.Tokens {
		c.token(at)
	}
	at = len(g.Tokens)
	c.need(len(g.Rules) <= api.MaxRules, api.ErrLimit)
	for i, r := range g.Rules {
		at = len(g.Tokens) + i
		c.rule(r)
	}
	return api.OK, 0
}

// token checks the token with the index i.
func (c checker) token(i int) {
	t := c.g.Tokens[i]
	c.need(Name(t.Name) && Find(c.g, t.Name) == i, api.ErrName)
	c.need(t.Kind == api.Internal || t.Kind == api.Call || t.Kind == api.Return, api.ErrKind)
	c.need(class(t.Class) && regex.May(t.Re), api.ErrLimit)
	c.need(!regex.Empty(t.Re), api.ErrEmpty)
}

// class reports whether n may be a class.
func class(n int) bool {
	return n >= 0 && n <= api.MaxClass
}

// rule checks r step by step. Only what begins with the first step has no
// Calls ahead of it.
func (c checker) rule(r api.Rule) {
	c.need(class(r.Class) && len(r.Steps) >= 1 && len(r.Steps) <= api.MaxSteps, api.ErrLimit)
	for i, s := range r.Steps {
		none := i == 0 && !r.Free
		c.need((len(s.Calls) == 0) == none, api.ErrKind)
		c.names(s.Calls, api.Call)
		c.need(fits(s.P), api.ErrLimit)
		c.pattern(s.P)
	}
}

// names checks that each of l is another token of that kind.
func (c checker) names(l []string, kind int) {
	for i, name := range l {
		t := Find(c.g, name)
		c.need(t >= 0 && !slices.Contains(l[:i], name), api.ErrName)
		c.need(c.g.Tokens[t].Kind == kind, api.ErrKind)
	}
}

// fits reports whether p has not too many nodes and is not too deep. It stops
// at the first node that is one too many.
func fits(p api.Pat) bool {
	nodes := 0
	var visit func(p api.Pat, deep int) bool
	visit = func(p api.Pat, deep int) bool {
		nodes++
		if nodes > api.MaxNodes || deep > api.MaxDeep {
			return false
		}
		return !slices.ContainsFunc(p.L, func(part api.Pat) bool { return !visit(part, deep+1) })
	}
	return visit(p, 1)
}

// pattern checks the nodes of p, each ahead of its parts.
func (c checker) pattern(p api.Pat) {
	c.need(shaped(p), api.ErrKind)
	if p.Kind == api.PTok {
		c.names(p.Names, api.Internal)
	}
	if p.Kind == api.PIn {
		c.names(p.Names, api.Call)
		c.names(p.Ends, api.Return)
	}
	for _, part := range p.L {
		c.pattern(part)
	}
}

// shaped reports whether a node has just what its kind has.
func shaped(p api.Pat) bool {
	names, ends, parts := len(p.Names), len(p.Ends), len(p.L)
	switch p.Kind {
	case api.PTok:
		return names > 0 && ends == 0 && parts == 0
	case api.PIn:
		return names > 0 && ends > 0 && parts == 1
	case api.PEmpty, api.PWell:
		return names == 0 && ends == 0 && parts == 0
	case api.PSeq, api.PAlt:
		return names == 0 && ends == 0 && parts == 2
	case api.PStar:
		return names == 0 && ends == 0 && parts == 1
	}
	return false
}
