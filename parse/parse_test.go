package parse

import (
	"math/rand"
	"strings"
	"testing"

	"gobo/api"
	"gobo/gram"
	"gobo/regex"
	"gobo/sample"
)

var (
	span, one, seq, alt, star = sample.Set, sample.One, sample.Seq, sample.Alt, sample.Star
	tok, more                 = sample.Tok, sample.Many
)

var none = api.Re{Kind: api.REmpty}

// 13.2: expressions.
func TestRe(t *testing.T) {
	a, b, c := one('a'), one('b'), one('c')
	for s, want := range map[string]api.Re{
		"": none, "a": a, "()": none, "|": alt(none, none), "a|b*": alt(a, star(b)), "a|b|c": alt(alt(a, b), c), "a|(b|c)": alt(a, alt(b, c)), "abc": seq(seq(a, b), c), "a(bc)": seq(a, seq(b, c)), "(a)": a, "((a)b)": seq(a, b),
		"a**": star(star(a)), "()*": star(none), "(a|)": alt(a, none), "a||b": alt(alt(a, none), b), "(ab)*c": seq(star(seq(a, b)), c), "()a": seq(none, a),
		".": {Kind: api.RSet, Set: []api.Range{{Lo: 0, Hi: 9}, {Lo: 11, Hi: api.MaxRune}}}, "[a-c]": span('a', 'c'), "[^\\u{0}-`b-\\u{10FFFF}]": a, `[\]]`: one(']'), `[\\]`: one('\\'), "[.]": one('.'),
		"^": one('^'), "-": one('-'), "{": one('{'), "}": one('}'), " ": one(' '), "\x7f": one(0x7f), "é": one('é'), `"`: one('"'), "\uFFFD": one(0xFFFD), "\U0010FFFF": one(api.MaxRune),
		`\n\r`: seq(one('\n'), one('\r')), `\t`: one('\t'), `\u{41}`: one('A'), `\u{0041}`: one('A'), `\u{10FFFF}`: one(api.MaxRune), `\u{0}`: one(0), `\/`: one('/'), `\.\-`: seq(one('.'), one('-')), `\\`: one('\\'), `\^*`: star(one('^')), `\(\)`: seq(one('('), one(')')), `\n-\t`: seq(seq(one('\n'), one('-')), one('\t')),
		`\u{41}}`: seq(one('A'), one('}')),
	} {
		if got, code, at := Re(s); !regex.Same(got, want) || code != api.OK || at != 0 {
			t.Errorf("Re(%q) = %v, %d at %d", s, got, code, at)
		}
	}
}

// 13.2: the first rune that can't stand there.
func TestReErrors(t *testing.T) {
	for _, x := range []struct {
		s  string
		at int
	}{
		{"(a", 2}, {"(", 1}, {")", 0}, {"a)", 1}, {"(a))", 3}, {"*", 0}, {"a|*", 2}, {"(*a)", 1}, {"/", 0}, {"a]", 1}, {"a\n", 1}, {"\x1f", 0}, {"\xff", 0}, {"é\xe2\x82", 2}, {"(\xff", 1},
		{"[", 1}, {"[]", 1}, {"[^]", 2}, {"[a", 2}, {"[a-", 3}, {"[a-]", 3}, {"[c-a]", 3}, {"[a/]", 2}, {"x[a/", 3}, {"[a[b]", 2}, {"[-a]", 1}, {"[a\n]", 2}, {"[\xff]", 1}, {"[a\xff", 2}, {`[\]`, 3}, {`[\`, 2}, {`[\q]`, 2}, {`[\u{D800}]`, 8}, {`[\u{1]`, 5}, {`[^\u{0}-\u{10FFFF}]`, 18}, {`[^\u{0}-\u{10FFFF}`, 18},
		{`\`, 1}, {`\q`, 1}, {`a\é`, 2}, {`\u`, 2}, {`\u1}`, 2}, {`\u{`, 3}, {`\u{}`, 3}, {`\u{1`, 4}, {`\u{a}`, 3}, {`\u{12 }`, 5}, {`\u{0000001}`, 9}, {`\u{110000}`, 8}, {`\u{D800}`, 7}, {`\u{DFFF}x`, 7}, {"\\\xff", 1}, {"\\\n", 1}, {`(\u{41}`, 7},
	} {
		if got, code, at := Re(x.s); code != api.ErrParse || at != x.at || !regex.Same(got, api.Re{}) {
			t.Errorf("Re(%q) = %v, %d at %d, want at %d", x.s, got, code, at, x.at)
		}
	}
}

// 13.2: brackets within each other.
func TestReDeep(t *testing.T) {
	nest := func(n int) string { return strings.Repeat("(", n) + "a" + strings.Repeat(")", n) }
	if got, code, _ := Re(nest(40) + nest(40)); code != api.OK || !regex.Same(got, seq(one('a'), one('a'))) {
		t.Error(code)
	}
	for _, s := range []string{nest(41), nest(3000), strings.Repeat("(", 41)} {
		if got, code, at := Re(s); code != api.ErrDeep || at != 40 || got.Kind != 0 {
			t.Errorf("%d at %d", code, at)
		}
	}
	if _, code, at := Re("a" + nest(41)); code != api.ErrDeep || at != 41 {
		t.Errorf("%d at %d", code, at)
	}
}

func in(o, c []string, p api.Pat) api.Pat {
	return api.Pat{Kind: api.PIn, Names: o, Ends: c, L: []api.Pat{p}}
}
func two(kind int, a, b api.Pat) api.Pat { return api.Pat{Kind: kind, L: []api.Pat{a, b}} }

const head = "tok a int 1 = /a/\ntok b int 002 = /b/ # two\n\r\ntok o call 3=/\\//\ntok c ret 31 = /#/"

// 13.1: a grammar.
func TestSource(t *testing.T) {
	tokens := []api.Token{{Name: "a", Class: 1, Re: one('a')}, {Name: "b", Class: 2, Re: one('b')}, {Name: "o", Kind: api.Call, Class: 3, Re: one('/')}, {Name: "c", Kind: api.Return, Class: 31, Re: one('#')}}
	a, b, well, empty := tok("a"), tok("b"), api.Pat{Kind: api.PWell}, api.Pat{Kind: api.PEmpty}
	o := []string{"o"}
	for s, want := range map[string][]api.Rule{
		"": nil, "\n": nil, "\n#x": nil,
		"\nrule 0 {a}":                     {{Steps: []api.Step{{P: a}}}},
		"\nrule 10 free ^{o}{a b}\n":       {{Class: 10, Free: true, Steps: []api.Step{{Calls: o, P: tok("a", "b")}}}},
		"\nrule 1 _|{a}|{b}\nrule 2()":     {{Class: 1, Steps: []api.Step{{P: two(api.PAlt, two(api.PAlt, well, a), b)}}}, {Class: 2, Steps: []api.Step{{P: empty}}}},
		"\nrule 1 _{a}({b}( ))**":          {{Class: 1, Steps: []api.Step{{P: two(api.PSeq, two(api.PSeq, well, a), more(more(two(api.PSeq, b, empty))))}}}},
		"\nrule 1 <o:{a}|_:c>^{o}_^{o}{b}": {{Class: 1, Steps: []api.Step{{P: in(o, []string{"c"}, two(api.PAlt, a, well))}, {Calls: o, P: well}, {Calls: o, P: b}}}},
		"\nrule 1 ((_|{a}))*":              {{Class: 1, Steps: []api.Step{{P: more(two(api.PAlt, well, a))}}}},
	} {
		got, code, at := Source(head + s)
		if code != api.OK || at != 0 || !gram.Same(got, api.Grammar{Tokens: tokens, Rules: want}) {
			t.Errorf("%q: %v, %d at %d", s, got, code, at)
		}
	}
}

// 13.1, 13.3: errors, and where they are in the text.
func TestSourceErrors(t *testing.T) {
	all := ""
	for i := 0; i < 17; i++ {
		all += "tok t" + string(rune('a'+i)) + " int 1 = /a/\n"
	}
	for _, x := range []struct {
		s        string
		code, at int
	}{
		{"tok a int 1 = a", api.ErrParse, 14}, {"", api.ErrLimit, 0}, {"\n\n# x", api.ErrLimit, 0}, {"rule 1 _", api.ErrLimit, 0}, {"?", api.ErrWord, 0}, {"tok ?", api.ErrWord, 4}, {strings.Repeat(" ", 4001), api.ErrLimit, 0}, {"tok a int 1 = /a", api.ErrWord, 14}, {"x ?", api.ErrWord, 2},
		{"x", api.ErrParse, 0}, {" 1", api.ErrParse, 1}, {"/a/", api.ErrParse, 0}, {"tok", api.ErrParse, 3}, {"tok \n", api.ErrParse, 4}, {"tok 1", api.ErrParse, 4}, {"tok a", api.ErrParse, 5}, {"tok a free", api.ErrParse, 6}, {"tok a int", api.ErrParse, 9}, {"tok a int b", api.ErrParse, 10}, {"tok a int 1", api.ErrParse, 11}, {"tok a int 1 /a/", api.ErrParse, 12}, {"tok a int 1 =", api.ErrParse, 13}, {"tok a int 1 = /a/ x", api.ErrParse, 18}, {"tok a int 1 = /a/ tok", api.ErrParse, 18},
		{"tok tok int 1 = /a/", api.ErrName, 4}, {"tok abcdefghijklm int 1 = /a/", api.ErrName, 4}, {"tok a int 0001 = /a/", api.ErrLimit, 10}, {"tok a int 999 = /a/", api.ErrLimit, 0}, {"tok a int 1 = /(a/", api.ErrParse, 17}, {"tok a int 1 = //", api.ErrEmpty, 0}, {"tok a int 1 = /[c-a]/", api.ErrParse, 18}, {"tok a int 1 = /" + strings.Repeat("(", 41) + "/", api.ErrDeep, 55},
		{head + "\n tok a int 1 = /a/", api.ErrName, len(head) + 2}, {head + "\ntok d int 32 = /a/", api.ErrLimit, len(head) + 1}, {all[:16*len(all)/17], api.OK, 0}, {all, api.ErrLimit, 16 * len(all) / 17}, {strings.Replace(all[:16*len(all)/17], "int 1", "int 99", 1), api.ErrLimit, 0}, {head + strings.Repeat("\nrule 99 _", 8), api.ErrLimit, len(head) + 1}, {head + strings.Repeat("\nrule 1 _", 8), api.OK, 0}, {head + strings.Repeat("\nrule 1 _", 9), api.ErrLimit, len(head) + 8*9 + 1},
		{head + "\nrule 1 _\n\n  rule 32 _", api.ErrLimit, len(head) + 13}, {head + "\nrule 1 {o}", api.ErrKind, len(head) + 1}, {head + "\nrule 1 {x}", api.ErrName, len(head) + 1}, {head + "\nrule 1 ^{o}_", api.ErrKind, len(head) + 1}, {head + "\nrule 1 free _", api.ErrKind, len(head) + 1}, {"rule 99 _\n" + head, api.ErrLimit, 0}, {"rule 99 _\n" + head + "\ntok d int 99 = /a/", api.ErrLimit, 10 + len(head) + 1},
		{"rule", api.ErrParse, 4}, {"rule a", api.ErrParse, 5}, {"rule 1", api.ErrParse, 6}, {"rule 1\n", api.ErrParse, 6}, {"rule 1 a", api.ErrParse, 7}, {"rule 1 free", api.ErrParse, 11}, {"rule 1 |", api.ErrParse, 7}, {"rule 1 _|", api.ErrParse, 9}, {"rule 1 *", api.ErrParse, 7}, {"rule 1 _)", api.ErrParse, 8}, {"rule 1 (_", api.ErrParse, 9}, {"rule 1 (", api.ErrParse, 8}, {"rule 1 (|)", api.ErrParse, 8}, {"rule 1 {}", api.ErrParse, 8}, {"rule 1 {a", api.ErrParse, 9}, {"rule 1 {1}", api.ErrParse, 8}, {"rule 1 {a|}", api.ErrParse, 9}, {"rule 1 {free}", api.ErrName, 8}, {"rule 1 {a int}", api.ErrName, 10},
		{"rule 1 <>", api.ErrParse, 8}, {"rule 1 <a", api.ErrParse, 9}, {"rule 1 <a:", api.ErrParse, 10}, {"rule 1 <a::c>", api.ErrParse, 10}, {"rule 1 <a:_:>", api.ErrParse, 12}, {"rule 1 <a:_>", api.ErrParse, 11}, {"rule 1 <a:_:c", api.ErrParse, 13}, {"rule 1 <tok:_:c>", api.ErrName, 8}, {"rule 1 <a:_:ret>", api.ErrName, 12}, {"rule 1 ^", api.ErrParse, 8}, {"rule 1 ^a", api.ErrParse, 8}, {"rule 1 ^{a}", api.ErrParse, 11}, {"rule 1 _ ^{a}", api.ErrParse, 13}, {"rule 1 _ free", api.ErrParse, 9}, {"rule 1 free free", api.ErrParse, 12}, {"rule 1234 _", api.ErrLimit, 5}, {"rule 1 :", api.ErrParse, 7}, {"rule 1 >", api.ErrParse, 7}, {"rule 1 _/", api.ErrWord, 8}, {"rule 1 _//", api.ErrParse, 8},
		{"rule 1 " + strings.Repeat("(", 41), api.ErrDeep, 47}, {"rule 1 " + strings.Repeat("<o:", 40) + "(", api.ErrDeep, 127}, {"rule 1 " + strings.Repeat("(", 40) + "<", api.ErrDeep, 47}, {"rule 1 " + strings.Repeat("(", 41) + "_" + strings.Repeat(")", 41), api.ErrDeep, 47},
		{head + "\nrule 1 " + strings.Repeat("(", 40) + "_" + strings.Repeat(")", 40) + "(_)", api.OK, 0}, {head + "\nrule 1 " + strings.Repeat("<o:", 12) + "_" + strings.Repeat(":c>", 12), api.ErrLimit, len(head) + 1},
	} {
		got, code, at := Source(x.s)
		if code != x.code || at != x.at || code != api.OK && !gram.Same(got, api.Grammar{}) {
			t.Errorf("Source(%.60q): %d at %d, want %d at %d", x.s, code, at, x.code, x.at)
		}
	}
}

// 13.1: of several errors, the first one that is read.
func TestFirst(t *testing.T) {
	for s, want := range map[string][2]int{
		"tok a int 1234 = /a/\nx": {api.ErrLimit, 10}, "x\ntok a int 1234": {api.ErrParse, 0}, "tok int int 1234": {api.ErrName, 4}, "tok a int 1 = /(/ x": {api.ErrParse, 16}, "rule 1 {tok} x": {api.ErrName, 8},
	} {
		if _, code, at := Source(s); [2]int{code, at} != want {
			t.Errorf("Source(%q): %d at %d", s, code, at)
		}
	}
}

// 13.3: every text is a grammar, or has an error at a place of it.
func TestAny(t *testing.T) {
	r := rand.New(rand.NewSource(13))
	good := head + "\nrule 3 _ ({a}|<o:{b}*:c>)* ^{o} () {b a}\nrule 10 free ^ {o} _ {a}"
	const some = "ab({<*/|>})^_: 1\n=\\#\xff\xc3?"
	for i := 0; i < 20000; i++ {
		b := []byte(good)
		for n := 1 + r.Intn(3); n > 0; n-- {
			at := r.Intn(len(b))
			switch r.Intn(3) {
			case 0:
				b[at] = some[r.Intn(len(some))]
			case 1:
				b = append(b[:at], b[at+1:]...)
			default:
				b = append(b[:at], append([]byte{some[r.Intn(len(some))]}, b[at:]...)...)
			}
		}
		s := string(b)
		g, code, at := Source(s)
		if code == api.OK && (at != 0 || !gram.May(g)) || code != api.OK && (at < 0 || at > len(s) || !gram.Same(g, api.Grammar{})) {
			t.Fatalf("%q: %d at %d", s, code, at)
		}
		if code == api.ErrParse {
			if _, c, a := Source(s[:at]); c == api.ErrParse && a < at {
				t.Fatalf("%q: ErrParse at %d, but %d at %d ahead of it", s, at, c, a)
			}
		}
	}
}
