package check

import (
	"math"
	"slices"
	"testing"

	"gobo/api"
)

// list is a valid list, made anew each time.
func list() []api.Check {
	return []api.Check{
		{},
		{Line: 1, Anchor: 4, Far: 6, State: 2, Calls: []int{0, 3}},
		{Line: 2, Anchor: 4, Far: 6, State: 2, Calls: []int{0, 3}},
		{Line: 3, Anchor: 9, Far: 12, State: 0, Calls: []int{8}},
	}
}

// 24.1: what is valid.
func TestMay(t *testing.T) {
	dense := list()
	dense[3].Calls = []int{0, 1, 2, 8}
	if !May(dense) || !May(list()) || !May(list()[:1]) || !May(nil) {
		t.Error("good")
	}
	for i, change := range []func([]api.Check){
		func(l []api.Check) { l[0].Line = 1 }, func(l []api.Check) { l[2].Line = 1 }, func(l []api.Check) { l[3].Line = 4 }, func(l []api.Check) { l[0].Anchor = 1 }, func(l []api.Check) { l[0].Far = 1 }, func(l []api.Check) { l[0].Far = -1 }, func(l []api.Check) { l[0].Anchor = -1 },
		func(l []api.Check) { l[2].Anchor = 3; l[2].Calls = nil }, func(l []api.Check) { l[2].Far = 5 }, func(l []api.Check) { l[1].State = -1 }, func(l []api.Check) { l[0].State = math.MinInt }, func(l []api.Check) { l[1].Calls[1] = 4 }, func(l []api.Check) { l[1].Calls[0] = -1 }, func(l []api.Check) { l[1].Calls[0] = 3 }, func(l []api.Check) { l[1].Calls = []int{3, 0} }, func(l []api.Check) { l[0].Calls = []int{0} }, func(l []api.Check) { l[3].Calls[0] = math.MaxInt },
	} {
		l := list()
		change(l)
		if May(l) || Begin(l, 100) != -1 || len(Cut(l, 100)) != 0 {
			t.Errorf("%d", i)
		}
	}
	if May(list()[1:]) {
		t.Error("the first Line is 1")
	}
}

// 24.1, 24.2: the last checkpoint whose Far is not above.
func TestBegin(t *testing.T) {
	for at, want := range map[int]int{11: 2, 12: 3, 6: 2, 5: 0, 0: 0, -1: -1, math.MaxInt: 3, math.MinInt: -1} {
		if got := Begin(list(), at); got != want {
			t.Errorf("Begin(%d) = %d", at, got)
		}
	}
	if Begin(nil, 5) != -1 || Begin(list()[:1], 0) != 0 || Begin(list()[:1], 99) != 0 || Begin(list()[:1], -1) != -1 {
		t.Error("short")
	}
}

// 24.1: shifting, which leaves its argument alone.
func TestShift(t *testing.T) {
	l := list()
	got := Shift(l[1], 3, -2, -1)
	if got.Anchor != 2 || got.Far != 4 || got.Line != 0 || got.State != 2 || !slices.Equal(got.Calls, []int{0, 1}) || !slices.Equal(l[1].Calls, []int{0, 3}) {
		t.Error(got)
	}
	got = Shift(l[1], 100, 5, 2)
	if got.Anchor != 9 || got.Far != 11 || got.Line != 3 || !slices.Equal(got.Calls, []int{0, 3}) {
		t.Error(got)
	}
	if got = Shift(l[1], 0, 1, 0); !slices.Equal(got.Calls, []int{1, 4}) {
		t.Error(got)
	}
	if got = Shift(l[1], 4, 1, 0); !slices.Equal(got.Calls, []int{0, 3}) {
		t.Error(got)
	}
}

// 24.1: what meets.
func TestMeets(t *testing.T) {
	a := list()[1]
	for i, x := range []struct {
		change func(*api.Check)
		want   bool
	}{
		{func(*api.Check) {}, true}, {func(c *api.Check) { c.Line, c.Far = 9, 9 }, true}, {func(c *api.Check) { c.Anchor++ }, false}, {func(c *api.Check) { c.State++ }, false}, {func(c *api.Check) { c.Calls = c.Calls[:1] }, false}, {func(c *api.Check) { c.Calls[1] = 2 }, false}, {func(c *api.Check) { c.Calls = nil }, false},
	} {
		b := list()[1]
		x.change(&b)
		if Meets(a, b) != x.want || Meets(b, a) != x.want {
			t.Errorf("%d", i)
		}
	}
	if !Meets(api.Check{Calls: []int{}}, api.Check{}) {
		t.Error("nil and empty")
	}
}

// 24.1: the checkpoints up to an offset.
func TestCut(t *testing.T) {
	for at, want := range map[int]int{4: 3, 3: 1, 0: 1, -1: 0, 8: 3, 9: 4, math.MaxInt: 4, math.MinInt: 0} {
		if got := Cut(list(), at); len(got) != want || !May(got) {
			t.Errorf("Cut(%d) = %v", at, got)
		}
	}
	l := list()
	Cut(l, 9)[1].Calls[0] = 2
	if l[1].Calls[0] != 0 {
		t.Error("shared")
	}
}
