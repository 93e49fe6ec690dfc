package word

import (
	"math/rand"
	"slices"
	"strings"
	"testing"

	"gobo/api"
	"gobo/runes"
)

// 12.1: the kinds of words, and what separates them.
func TestAll(t *testing.T) {
	for _, x := range []struct {
		s    string
		want []Word
	}{
		{"", nil}, {" \t\r", nil}, {"# no word { / \" é", nil},
		{"tok a", []Word{{1, "tok", 0}, {1, "a", 4}}},
		{"tok a1 12ab", []Word{{1, "tok", 0}, {1, "a1", 4}, {2, "12", 7}, {1, "ab", 9}}},
		{"a9z{", []Word{{1, "a9z", 0}, {3, "{", 3}}},
		{"0012\r3", []Word{{2, "0012", 0}, {2, "3", 5}}},
		{"{}()|*^<>:_=", []Word{{3, "{", 0}, {3, "}", 1}, {3, "(", 2}, {3, ")", 3}, {3, "|", 4}, {3, "*", 5}, {3, "^", 6}, {3, "<", 7}, {3, ">", 8}, {3, ":", 9}, {3, "_", 10}, {3, "=", 11}}},
		{"a#b\n\n c", []Word{{1, "a", 0}, {5, "", 3}, {5, "", 4}, {1, "c", 6}}},
		{`//a/b\/\\/c`, []Word{{4, "", 0}, {1, "a", 2}, {4, `b\/\\`, 3}, {1, "c", 10}}},
		{"/#é \x01/#/", []Word{{4, "#é \x01", 0}}},
		{`/\é/`, []Word{{4, `\é`, 0}}},
	} {
		got, code, at := All(x.s)
		if !slices.Equal(got, x.want) || code != api.OK || at != 0 {
			t.Errorf("All(%q) = %v, %d at %d", x.s, got, code, at)
		}
	}
}

// 12.1, 12.3: errors, and where.
func TestAllErrors(t *testing.T) {
	long := strings.Repeat("a ", api.MaxSource/2)
	if got, code, _ := All(long); code != api.OK || len(got) != api.MaxSource/2 {
		t.Error("as long as may be", code)
	}
	for _, x := range []struct {
		s        string
		code, at int
	}{
		{long + "a", api.ErrLimit, 0}, {"?" + long, api.ErrLimit, 0}, {"\xff" + long, api.ErrLimit, 0},
		{"a /b\n", api.ErrWord, 2}, {"a /b", api.ErrWord, 2}, {"a /b\\/", api.ErrWord, 2}, {"a /b\\", api.ErrWord, 2}, {"/b\\\n/", api.ErrWord, 0}, {"/", api.ErrWord, 0},
		{"a A", api.ErrWord, 2}, {"a\x00", api.ErrWord, 1}, {"aé", api.ErrWord, 1}, {"a-", api.ErrWord, 1}, {"\v", api.ErrWord, 0}, {"a\\", api.ErrWord, 1}, {"a\"", api.ErrWord, 1}, {"\u00a0", api.ErrWord, 0},
		{"a # \xff", api.ErrWord, 4}, {"a /\xff/", api.ErrWord, 3}, {"a /\xff", api.ErrWord, 2}, {"/\\\xff/ ?", api.ErrWord, 2}, {"? # \xff", api.ErrWord, 0}, {"# \xff\n?", api.ErrWord, 2}, {"#\xe2\x82", api.ErrWord, 1}, {"a\xe2\x82", api.ErrWord, 1},
	} {
		got, code, at := All(x.s)
		if len(got) != 0 || code != x.code || at != x.at {
			t.Errorf("All(%.20q) = %v, %d at %d, want %d at %d", x.s, got, code, at, x.code, x.at)
		}
	}
}

func set(ends ...rune) []api.Range {
	var l []api.Range
	for i := 0; i < len(ends); i += 2 {
		l = append(l, api.Range{Lo: ends[i], Hi: ends[i+1]})
	}
	return l
}

// 12.2: classes.
func TestClass(t *testing.T) {
	for s, want := range map[string][]api.Range{
		"a-c": set('a', 'c'), "abc": set('a', 'c'), "ca-b": set('a', 'c'), "aa": set('a', 'a'), "a-a": set('a', 'a'), "a-cb-z": set('a', 'z'), "z-za": set('a', 'a', 'z', 'z'), "a-zc-d": set('a', 'z'),
		"^a": set(0, '`', 'b', api.MaxRune), "^^": set(0, ']', '_', api.MaxRune), "a^": set('^', '^', 'a', 'a'), `\^`: set('^', '^'), `\--\-`: set('-', '-'), `\--.`: set('-', '.'), ".": set('.', '.'), "{}": set('{', '{', '}', '}'),
		` -~`: set(' ', '~'), `\n\r\t`: set(9, 10, 13, 13), `\/\|\*\(\)\[\]\\\.\-\{\}`: set('(', '*', '-', '/', '[', ']', '{', '}'), `\u{0}-\u{10FFFF}`: set(0, api.MaxRune), `\u{00E9}`: set('é', 'é'), "é": set('é', 'é'), "\x7f": set(0x7f, 0x7f),
		`\u{D7FF}\u{E000}`: set(0xD7FF, 0xE000), `^\u{D7FF}\u{E000}`: set(0, 0xD7FE, 0xE001, api.MaxRune), `^\u{0}-\u{D7FF}`: set(0xE000, api.MaxRune), `^\u{E000}-\u{10FFFF}`: set(0, 0xD7FF), "\uFFFD": set(0xFFFD, 0xFFFD), `^\u{0}-\u{10FFFE}`: set(api.MaxRune, api.MaxRune), `\u{A}`: set(10, 10), `\u{F}`: set(15, 15), `u{}`: set('u', 'u', '{', '{', '}', '}'),
	} {
		got, code, at := Class(s)
		if !runes.Same(got, want) || code != api.OK || at != 0 {
			t.Errorf("Class(%q) = %x, %d at %d", s, got, code, at)
		}
	}
}

// 12.2, 12.3: the first rune that can't stand there.
func TestClassErrors(t *testing.T) {
	for _, x := range []struct {
		s  string
		at int
	}{
		{"", 0}, {"^", 1}, {"c-a", 2}, {`é-\n`, 3}, {"a-", 2}, {"-", 0}, {"-a", 0}, {"a--", 2}, {"a-b-c", 3}, {"^-", 1}, {"a/", 1}, {"a|", 1}, {"a*", 1}, {"(", 0}, {"a)", 1}, {"[", 0}, {"a]", 1}, {"a\n", 1}, {"a\x1f", 1}, {"a-\t", 2},
		{`\`, 1}, {`\q`, 1}, {`a\é`, 2}, {`\-\`, 3}, {`\u`, 2}, {`\u1`, 2}, {`\u{`, 3}, {`\u{}`, 3}, {`\u{1`, 4}, {`\u{g}`, 3}, {`\u{a}`, 3}, {`\u{1 }`, 4}, {`\u{1234567}`, 8}, {`\u{0000001}`, 9}, {`\u{110000}`, 8}, {`\u{FFFFFF}`, 8}, {`\u{11000F}`, 8}, {`\u{D800}`, 7}, {`\u{00DFFF}`, 9},
		{"a\xff", 1}, {"a-\xe2\x82", 2}, {"\\\xff", 1}, {"\\u{\xff", 3}, {`^\u{0}-\u{10FFFF}`, 17}, {`^\u{0}-\u{D7FF}\u{E000}-\u{10FFFF}`, 34}, {`\N`, 1}, {"\\\n", 1},
	} {
		got, code, at := Class(x.s)
		if len(got) != 0 || code != api.ErrParse || at != x.at {
			t.Errorf("Class(%q) = %v, %d at %d, want at %d", x.s, got, code, at, x.at)
		}
	}
}

// 12.2, 12.3: any text is a set in normal form, or has an error at a place of it; so is it with words.
func TestAny(t *testing.T) {
	r := rand.New(rand.NewSource(12))
	some := []string{"a", "b", "-", "^", `\`, "u", "{", "}", "D", "8", "0", "n", "é", ".", "\xff", "]", "/", "\n", "#", "=", " "}
	for i := 0; i < 20000; i++ {
		s := ""
		for n := r.Intn(9); n > 0; n-- {
			s += some[r.Intn(len(some))]
		}
		set, code, at := Class(s)
		if code == api.OK && (len(set) == 0 || !runes.May(set) || at != 0) || code != api.OK && (code != api.ErrParse || at < 0 || at > len(s) || len(set) != 0) {
			t.Fatalf("Class(%q) = %v, %d at %d", s, set, code, at)
		}
		other, code2, at2 := Class("^" + s)
		if code == api.OK && code2 == api.OK && s[0] != '^' && !runes.Same(other, runes.Not(set)) {
			t.Fatalf("Class(^%q) = %v", s, other)
		}
		if code == api.OK && s[0] != '^' && code2 != api.OK && (at2 != len(s)+1 || runes.Count(set) != runes.Count(runes.Not(nil))) {
			t.Fatalf("Class(^%q): %d at %d", s, code2, at2)
		}
		words, code, at := All(s)
		if code != api.OK && (code != api.ErrWord || at < 0 || at >= len(s) || len(words) != 0) {
			t.Fatalf("All(%q): %d at %d", s, code, at)
		}
		end := 0
		for _, w := range words {
			size := len(w.Text) + map[int]int{4: 2, 5: 1}[w.Kind]
			if w.At < end || w.Kind < 1 || w.Kind > 5 || w.Kind == 5 && s[w.At] != '\n' || !strings.Contains(s[w.At:w.At+size], w.Text) {
				t.Fatalf("All(%q): %v", s, w)
			}
			end = w.At + size
		}
	}
}
