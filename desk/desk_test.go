package desk

import (
	"math"
	"strings"
	"testing"

	"gobo/api"
)

const source = "tok a int 1 = /a/\ntok c call 2 = /c/\ntok d ret 3 = /d/\nrule 10 free ^ {c} {a}\n"

// 28.1: errors ahead of all commands, the first one first.
func TestErrors(t *testing.T) {
	long := strings.Repeat("spans\n", 201)
	big := strings.Repeat("a", api.MaxDoc+1)
	for i, x := range []struct {
		source string
		most   int
		doc    string
		script string
		want   string
	}{
		{"", 50, "", "spans", "error 6 0\n"}, {"", 50, big, long, "error 6 0\n"}, {"tok a int 1 = a", 50, "", "", "error 3 14\n"}, {source, 0, "", "spans", "error 1 0\n"}, {source, 1, "", "spans", "error 8 0\n"}, {source, math.MinInt, "", "", "error 1 0\n"},
		{source, 50, big, "spans", "error 6\n"}, {source, 50, big, long, "error 6\n"}, {source, 50, "a", long, "error\n"}, {source, 50, "", strings.Repeat("\n", 201), "error\n"}, {source, 50, "", strings.Repeat("\n", 200) + "x", "error\n"},
		{source, 50, "", strings.Repeat("\n", 200), ""}, {source, 50, "", strings.Repeat("\n", 199) + "spans", "0\n"}, {source, 50, "", strings.Repeat("\n", 199) + "spans\n", "0\n"}, {source, 50, "", "", ""}, {source, 50, "", "\n", ""},
	} {
		if got := Run(x.source, x.most, x.doc, x.script); got != x.want {
			t.Errorf("%d: %q, want %q", i, got, x.want)
		}
	}
	if got := Run(source, 50, "a", long[:200*6]); got != strings.Repeat("1\n", 200) {
		t.Error(got)
	}
}

// 28.1: each command, and the answers to its edges.
func TestCommands(t *testing.T) {
	for _, x := range []struct{ doc, script, want string }{
		{"cad\na", "spans", "5"}, {"cad\na", "text 0", "0-3"}, {"", "spans", "0"}, {"", "text 0", "none"}, {"", "lines", "1"}, {"", "work", "0 0"}, {"", "span 0", "none"}, {"", "class 0", "-1"}, {"", "partner 0", "-1"}, {"", "folds", "0"}, {"", "matches", "0"}, {"", "diags", "0"},
		{"cad\na", "span 1", "1 2 0 10"}, {"cad\na", "span 3", "3 4 -1 0"}, {"cad\na", "span 5", "none"}, {"cad\na", "span 0", "0 1 1 2"}, {"cad\na", "class 0", "2"}, {"aaaaaaaaaacaaa", "span 12", "12 13 0 1"}, {"aaaaaaaaaacaaa", "class 11", "10"}, {"cad\na", "span 99999", "none"}, {"cad\na", "span 00001", "1 2 0 10"}, {"cad\na", "class 1", "10"}, {"cad\na", "class 4", "1"}, {"cad\na", "class 5", "-1"}, {"cad\na", "partner 0", "2"}, {"cad\na", "partner 2", "0"}, {"cad\na", "partner 1", "-1"}, {"cad\na", "partner 77", "-1"},
		{"cad\na", "matches", "1"}, {"cad\na", "folds", "0"}, {"c\nd", "folds", "1"}, {"cad\na", "diags", "1"}, {"cad\na", "lines", "2"}, {"cad\na", "text 1", "4-5"}, {"cad\na", "text 2", "none"}, {"a\xe2\x82\n", "text 0", "0-3"}, {"aa", "work", "4 2"},
		{"cad\na", "insert 1 a", "0"}, {"cad\na", "insert 5 ", "0"}, {"cad\na", "insert 6 ", "9"}, {"cad\na", "insert 6 a", "9"}, {"cad\na", "delete 0 5", "0"}, {"cad\na", "delete 0 6", "9"}, {"cad\na", "delete 5 0", "0"}, {"cad\na", "delete 6 0", "9"}, {"cad\na", "delete 99999 99999", "9"},
		{"cad\na", "insert 1  a  c \nspans\nspan 1\nspan 2", "0\n11\n1 2 -1 0\n2 3 0 1"}, {"aa", "insert 1 \xff\ndiags", "0\n2"}, {"cad\na", "delete 3 1\nlines\nspans\nwork\ndelete 9 9\nwork", "0\n1\n4\n6 3\n9\n0 0"}, {"x", "\n\nspans\n\n\nspans\n", "1\n1"},
	} {
		if got := Run(source, 50, x.doc, x.script); got != x.want+"\n" {
			t.Errorf("%q, %q: %q, want %q", x.doc, x.script, got, x.want)
		}
	}
	full := strings.Repeat("a", api.MaxDoc)
	if got := Run(source, 50, full, "insert 0 a\ndelete 0 1\ninsert 0 a\nspans"); got != "6\n0\n0\n65536\n" {
		t.Error(got)
	}
}

// 28.1: what is no command.
func TestWrong(t *testing.T) {
	for _, line := range []string{
		" ", "x", "Spans", " spans", "spans ", "spans 1", "span", "span ", "span  1", "span 1 ", "span 1 2", "span a", "span -1", "span +1", "span 123456", "span 1\r", "spans\r", "span ١", "class", "class x", "class 1 1", "partner", "partner 1 ", "folds 0", "matches x", "diags ", "lines 1", "work 1", "work ", "text", "text a", "text 0 0", "text -1",
		"insert", "insert 1", "insert  1 a", "insert a 1", "insert 100000 a", "insert -1 a", "insert  a", "delete", "delete 1", "delete 1 ", "delete 1 1 1", "delete 1  1", "delete a 1", "delete 1 a", "delete 1 -1", "delete 1 100000", "#", "insert\t1 a",
	} {
		if got := Run(source, 50, "cad", line); got != "error\n" {
			t.Errorf("%q: %q", line, got)
		}
	}
}
