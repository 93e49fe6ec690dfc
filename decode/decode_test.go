package decode

import (
	"bytes"
	"math/rand"
	"slices"
	"testing"
	"unicode/utf8"

	"gobo/api"
)

func good(r rune, from, to int) api.Item { return api.Item{Rune: r, From: from, To: to} }

func bad(from, to int, more bool) api.Item {
	return api.Item{Rune: 0xFFFD, From: from, To: to, Bad: true, More: more}
}

// 3.1: ordinary bytes, the edges of Table 3-7, and maximal subparts.
func TestAll(t *testing.T) {
	for _, x := range []struct {
		in   string
		want []api.Item
	}{
		{"", nil},
		{"a\x00\x7f", []api.Item{good('a', 0, 1), good(0, 1, 2), good(0x7F, 2, 3)}},
		{"\xE2\x82A", []api.Item{bad(0, 2, true), good('A', 2, 3)}},
		{"\xE2\x82", []api.Item{bad(0, 2, true)}},
		{"\xC2\x80\xDF\xBF", []api.Item{good(0x80, 0, 2), good(0x7FF, 2, 4)}},
		{"\xC0\xAF", []api.Item{bad(0, 1, false), bad(1, 2, false)}},
		{"\xC1", []api.Item{bad(0, 1, false)}},
		{"\xE0\xA0\x80\xE0\x9F\x80", []api.Item{good(0x800, 0, 3), bad(3, 4, true), bad(4, 5, false), bad(5, 6, false)}},
		{"\xED\x9F\xBF\xED\xA0\x80", []api.Item{good(0xD7FF, 0, 3), bad(3, 4, true), bad(4, 5, false), bad(5, 6, false)}},
		{"\xEE\x80\x80\xEF\xBF\xBD", []api.Item{good(0xE000, 0, 3), good(0xFFFD, 3, 6)}},
		{"\xF0\x90\x80\x80\xF0\x8F", []api.Item{good(0x10000, 0, 4), bad(4, 5, true), bad(5, 6, false)}},
		{"\xF4\x8F\xBF\xBF\xF4\x90", []api.Item{good(0x10FFFF, 0, 4), bad(4, 5, true), bad(5, 6, false)}},
		{"\xF1\x80\x80\xE1\x80\xC3", []api.Item{bad(0, 3, true), bad(3, 5, true), bad(5, 6, true)}},
		{"\xF5\xFF\xBF", []api.Item{bad(0, 1, false), bad(1, 2, false), bad(2, 3, false)}},
		{"\xF1\x80\xF1", []api.Item{bad(0, 2, true), bad(2, 3, true)}},
	} {
		if got := All([]byte(x.in)); !slices.Equal(got, x.want) {
			t.Errorf("All(%x) = %v, want %v", x.in, got, x.want)
		}
	}
}

// 3.1: every scalar value is one Item, and Go's own decoder agrees on runes.
func TestScalars(t *testing.T) {
	for r := rune(0); r <= api.MaxRune; r++ {
		if !utf8.ValidRune(r) {
			continue
		}
		b := Put(r)
		if !bytes.Equal(b, []byte(string(r))) {
			t.Fatalf("Put(%x) = %x", r, b)
		}
		if got := All(b); len(got) != 1 || got[0] != good(r, 0, len(b)) {
			t.Fatalf("All(%x) = %v", b, got)
		}
	}
}

// 3.1: at every edge of Table 3-7, Go's own decoder agrees on what is well-formed.
func TestEdges(t *testing.T) {
	edges := []byte{0x00, 0x7F, 0x80, 0x8F, 0x90, 0x9F, 0xA0, 0xBF, 0xC0, 0xFF}
	for lead := 0x80; lead < 0x100; lead++ {
		for n := range 1000 {
			b := []byte{byte(lead), edges[n/100], edges[n/10%10], edges[n%10]}
			r, size := utf8.DecodeRune(b)
			it := All(b)[0]
			if it.Bad != (r == utf8.RuneError) || !it.Bad && (it.Rune != r || it.To != size) {
				t.Fatalf("%x: %v", b, it)
			}
			if want := it.To == 1 && !utf8.FullRune(b[:1]) || it.To > 1; it.Bad && (it.More != want || utf8.FullRune(b[:it.To]) == it.More) {
				t.Fatalf("%x: %v", b, it)
			}
		}
	}
}

// 3.1: what is no scalar value is put as FFFD.
func TestPut(t *testing.T) {
	if !bytes.Equal(Put(0xE9), []byte{0xC3, 0xA9}) {
		t.Error("Put(E9)")
	}
	for _, r := range []rune{0xD800, 0xDFFF, 0x110000, -1, -1 << 31, 1<<31 - 1} {
		if got := Put(r); !bytes.Equal(got, []byte{0xEF, 0xBF, 0xBD}) {
			t.Errorf("Put(%x) = %x", r, got)
		}
	}
}

// 3.2: what waits, and what Close makes of it.
func TestDec(t *testing.T) {
	d := New()
	if d.Held() != 0 {
		t.Error("new one holds")
	}
	if got := d.Feed([]byte("a\xF0")); !slices.Equal(got, []api.Item{good('a', 0, 1)}) || d.Held() != 1 {
		t.Error(got, d.Held())
	}
	if got := d.Feed(nil); len(got) != 0 || d.Held() != 1 {
		t.Error(got)
	}
	if got := d.Feed([]byte("\x90\x80")); len(got) != 0 || d.Held() != 3 {
		t.Error(got, d.Held())
	}
	if got := d.Feed([]byte("\x80\xE2\x82")); !slices.Equal(got, []api.Item{good(0x10000, 1, 5)}) || d.Held() != 2 {
		t.Error(got, d.Held())
	}
	if got := d.Feed([]byte("A\xC3")); !slices.Equal(got, []api.Item{bad(5, 7, true), good('A', 7, 8)}) || d.Held() != 1 {
		t.Error(got, d.Held())
	}
	if got := d.Close(); !slices.Equal(got, []api.Item{bad(8, 9, true)}) || d.Held() != 0 {
		t.Error(got, d.Held())
	}
	if len(d.Close()) != 0 || len(d.Feed([]byte("a"))) != 0 || d.Held() != 0 {
		t.Error("goes on behind Close")
	}
	var none *Dec
	if len(none.Feed([]byte("a"))) != 0 || len(none.Close()) != 0 || none.Held() != 0 {
		t.Error("nil")
	}
	e := New()
	if len(e.Close()) != 0 || len(e.Feed([]byte{0xC3})) != 0 || e.Held() != 0 {
		t.Error("closed at once")
	}
}

// 3.2: the bytes that are handed in are not kept.
func TestOwn(t *testing.T) {
	d := New()
	b := []byte{0xC3}
	d.Feed(b)
	b[0] = 'x'
	if got := d.Feed([]byte{0xA9}); !slices.Equal(got, []api.Item{good(0xE9, 0, 2)}) {
		t.Error(got)
	}
}

// 3.3: however the bytes are divided.
func TestPieces(t *testing.T) {
	r := rand.New(rand.NewSource(3))
	some := []byte{'a', '\n', 0x80, 0xBF, 0xC2, 0xC3, 0xE0, 0xE2, 0xED, 0xA0, 0x9F, 0xF0, 0xF4, 0x8F, 0x90, 0xFF}
	for i := 0; i < 3000; i++ {
		b := make([]byte, r.Intn(12))
		for k := range b {
			b[k] = some[r.Intn(len(some))]
		}
		d := New()
		var got []api.Item
		for at := 0; at < len(b); {
			n := 1 + r.Intn(len(b)-at)
			got = append(got, d.Feed(b[at:at+n])...)
			at += n
		}
		got = append(got, d.Close()...)
		if !slices.Equal(got, All(b)) {
			t.Fatalf("%x: %v, want %v", b, got, All(b))
		}
		at := 0
		for _, it := range got {
			if it.From != at || it.To <= at || it.More && !it.Bad {
				t.Fatalf("%x: %v", b, got)
			}
			if !it.Bad && !bytes.Equal(Put(it.Rune), b[it.From:it.To]) {
				t.Fatalf("%x: %v", b, it)
			}
			at = it.To
		}
		if at != len(b) {
			t.Fatalf("%x: ends at %d", b, at)
		}
	}
}
