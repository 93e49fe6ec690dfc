package vpa

import (
	"cmp"
	"slices"

	"gobo/api"
)

// Len is how many places there are.
func (v *Vpa) Len() int {
	if v == nil {
		return 0
	}
	return len(v.places)
}

// Start is where each rule begins.
func (v *Vpa) Start() []int {
	if v == nil {
		return nil
	}
	return slices.Clone(v.start)
}

// at is the place p, if there is one, and t is a token of that kind.
func (v *Vpa) at(p, t, kind int) (place, bool) {
	if v == nil || p < 0 || p >= len(v.places) || t < 0 || t >= len(v.kinds) || v.kinds[t] != kind {
		return place{}, false
	}
	return v.places[p], true
}

// Int is the places behind p and an Internal token, or a symbol without a name.
func (v *Vpa) Int(p, t int) []int {
	if v == nil || p < 0 || p >= len(v.places) {
		return nil
	}
	if _, ok := v.at(p, t, api.Internal); !ok && t != -1 {
		return nil
	}
	from := v.places[p]
	if from.kind == wide || from.kind == free {
		return []int{p}
	}
	takes := func(item int) bool {
		x := v.places[item]
		return x.kind == well || x.kind == tok && slices.Contains(x.names, t)
	}
	var l []int
	for _, item := range from.next {
		if takes(item) {
			l = append(l, item)
		}
	}
	return l
}

// Call is the places behind p and a Call, each with a symbol for the stack.
func (v *Vpa) Call(p, t int) [][2]int {
	from, ok := v.at(p, t, api.Call)
	if !ok {
		return nil
	}
	if from.kind == wide {
		return [][2]int{{0, 0}}
	}
	var l [][2]int
	enter := func(to, symbol int) { l = append(l, [2]int{to, symbol}) }
	if from.kind == free {
		enter(p, p)
	}
	for _, item := range from.next {
		x := v.places[item]
		if x.kind == in && slices.Contains(x.names, t) {
			enter(item+1, item)
		}
		if x.kind == well {
			enter(0, item)
		}
	}
	if next, ok := v.nextStep(from); ok && slices.Contains(next.calls, t) {
		enter(next.begin, pending)
	}
	slices.SortFunc(l, func(a, b [2]int) int { return cmp.Or(cmp.Compare(a[0], b[0]), cmp.Compare(a[1], b[1])) })
	return l
}

// nextStep is the step that a Call leads to from p, if there is one.
func (v *Vpa) nextStep(p place) (step, bool) {
	steps := v.steps[p.rule]
	switch {
	case p.kind == free:
		return steps[0], true
	case p.step != none && p.end && p.step+1 < len(steps):
		return steps[p.step+1], true
	}
	return step{}, false
}

// Ret is the places behind p and a Return whose Call left the symbol sym.
func (v *Vpa) Ret(p, sym, t int) []int {
	from, ok := v.at(p, t, api.Return)
	if !ok || sym < 0 || sym >= len(v.places) {
		return nil
	}
	to := v.places[sym]
	switch to.kind {
	case wide, free:
		ok = p == sym
	case well:
		ok = p == 0
	case in:
		ok = from.owner == sym && from.end && slices.Contains(to.ends, t)
	default:
		ok = false
	}
	if !ok {
		return nil
	}
	return []int{sym}
}

// Bottom is the places behind p and a Return without a Call.
func (v *Vpa) Bottom(p, t int) []int {
	if from, ok := v.at(p, t, api.Return); ok && from.kind == free {
		return []int{p}
	}
	return nil
}

// Rule is the rule that matches at p.
func (v *Vpa) Rule(p int) int {
	if v == nil || p < 0 || p >= len(v.places) {
		return -1
	}
	at := v.places[p]
	if at.end && at.step != none && at.step == len(v.steps[at.rule])-1 {
		return at.rule
	}
	return -1
}
