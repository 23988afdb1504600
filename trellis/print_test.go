package trellis_test

import (
	"strings"
	"testing"

	"trellis/api"
	"trellis/trellis"
)

func TestPrintOneForm(t *testing.T) {
	for _, c := range []struct{ in, want string }{
		{"module a", "module a\n"},
		{"\n \t\n// x\nmodule a\n\n", "module a\n"},
		{" \tmodule\t \ta \t// x", "module a\n"},
		{"module a//b", "module a\n"},
		{"module a // x\nrequire (\n  c v1.0.0\nb v0.1.0\n)", "module a\nrequire b v0.1.0\nrequire c v1.0.0\n"},
		{"module a\nrequire ( // x\n// )\n) // y\nrequire (\n)\nexclude (\n)\nreplace (\n)", "module a\n"},
		{"module a\nrequire (\nb v1.0.0\n)\nrequire (\na v1.0.0\n)\nrequire c v1.0.0", "module a\nrequire a v1.0.0\nrequire b v1.0.0\nrequire c v1.0.0\n"},
		// Each kind of line stands with its own, whatever the text's order.
		{"module z\nreplace a => a v1.0.0\nexclude b v1.0.0\nrequire c v1.0.0", "module z\nrequire c v1.0.0\nexclude b v1.0.0\nreplace a => a v1.0.0\n"},
		// Paths byte by byte.
		{"module a\nrequire (\nb/c v1.0.0\nba v1.0.0\nb v1.0.0\nb.c v1.0.0\nb_c v1.0.0\nb0 v1.0.0\nb-c v1.0.0\n)", "module a\nrequire b v1.0.0\nrequire b-c v1.0.0\nrequire b.c v1.0.0\nrequire b/c v1.0.0\nrequire b0 v1.0.0\nrequire b_c v1.0.0\nrequire ba v1.0.0\n"},
		// Versions by their order.
		{"module a\nexclude (\nc v1.0.0\nb v1.10.0\nb v1.9.0\nb v1.9.0-rc.10\nb v1.9.0-rc.9\n)", "module a\nexclude b v1.9.0-rc.9\nexclude b v1.9.0-rc.10\nexclude b v1.9.0\nexclude b v1.10.0\nexclude c v1.0.0\n"},
		{"module a\nreplace (\nc v1.10.0 => d v1.0.0\nc v1.9.0 => d v1.0.0\nc => d v1.0.0\nb v2.0.0 => d v1.0.0\n)", "module a\nreplace b v2.0.0 => d v1.0.0\nreplace c => d v1.0.0\nreplace c v1.9.0 => d v1.0.0\nreplace c v1.10.0 => d v1.0.0\n"},
		// The same path in lines of several kinds; the module's own path.
		{"module a\nrequire a v1.0.0\nexclude a v1.0.0\nreplace a v1.0.0 => a v1.0.0\nreplace a => a v1.0.0", "module a\nrequire a v1.0.0\nexclude a v1.0.0\nreplace a => a v1.0.0\nreplace a v1.0.0 => a v1.0.0\n"},
		// The first words are paths where a path should stand.
		{"module module\nrequire (\nmodule v1.0.0\nrequire v1.0.0\nreplace v1.0.0\n)\nexclude exclude v1.0.0", "module module\nrequire module v1.0.0\nrequire replace v1.0.0\nrequire require v1.0.0\nexclude exclude v1.0.0\n"},
		{"module v1.0.0\nrequire v1.0.0 v1.0.0", "module v1.0.0\nrequire v1.0.0 v1.0.0\n"},
		{"module " + strings.Repeat("a", api.MaxPath), "module " + strings.Repeat("a", api.MaxPath) + "\n"},
	} {
		got, err := trellis.Print(c.in)
		if got != c.want || err != nil {
			t.Errorf("P4: Print(%q) = %q, %v, want %q", c.in, got, err, c.want)
		}
		if again, err := trellis.Print(got); again != got || err != nil {
			t.Errorf("P4: Print(%q) = %q, %v", got, again, err)
		}
	}
}

func TestPrintSyntax(t *testing.T) {
	for _, c := range []struct {
		in   string
		line int
	}{
		// No `module`: the last line tells it.
		{"", 1}, {"\n", 2}, {"// module a\n\n", 3}, {"require b v1.0.0", 1}, {"require b v1.0.0\n", 2}, {"require (\n)", 2},
		// A `module` that is not the first to say something.
		{"module a\nmodule a", 2}, {"require b v1.0.0\nmodule a", 2}, {"require (\n)\nmodule a", 3}, {"module a\n\nmodule B\n", 3},
		// Words that have no form.
		{"module", 1}, {"module a b", 1}, {"modules a", 1}, {"Module a", 1}, {"module(\n)", 1},
		{"module a\nrequire", 2}, {"module a\nrequire b", 2}, {"module a\nrequire b v1.0.0 v1.0.0", 2}, {"module a\nb v1.0.0", 2}, {"module a\nexclude b", 2}, {"module a\nexclude", 2},
		{"module a\nreplace b", 2}, {"module a\nreplace b v1.0.0", 2}, {"module a\nreplace b c v1.0.0", 2}, {"module a\nreplace b =>", 2}, {"module a\nreplace b => c", 2}, {"module a\nreplace => c v1.0.0", 2}, {"module a\nreplace b v1.0.0 => c", 2}, {"module a\nreplace b v1.0.0 => c v1.0.0 d", 2}, {"module a\nreplace b v1.0.0 v1.0.0 => c v1.0.0", 2}, {"module a\nreplace b=>c v1.0.0", 2},
		// `(`, `)` and `=>` where they may not stand.
		{"module (", 1}, {"module )", 1}, {"module =>", 1}, {"module (\na\n)", 1}, {"module a\n(", 2}, {"module a\n=>", 2}, {"module a\nrequire => v1.0.0", 2}, {"module a\nrequire b (", 2}, {"module a\nrequire ( b v1.0.0 )", 2}, {"module a\nrequire ()", 2}, {"module a\nrequire )", 2},
		{"module a\nreplace => => c v1.0.0", 2}, {"module a\nreplace b => => v1.0.0", 2}, {"module a\nreplace b => c =>", 2}, {"module a\nreplace b => => c v1.0.0", 2}, {"module a\nreplace b ( => c v1.0.0", 2},
		// Blocks.
		{"module a\n)", 2}, {"module a\nrequire (\n)\n)", 4}, {"module a\nrequire (\nrequire (\n)\n)", 3}, {"module a\nrequire (\n(\n)\n)", 3}, {"module a\nreplace (\nexclude (\n)\n)", 3}, {"module a\nrequire (\nrequire b v1.0.0\n)", 3}, {"module a\nrequire (\n) )", 3}, {"module a\nrequire (\nb v1.0.0 )", 3}, {"module a\nreplace (\nb v1.0.0\n)", 3}, {"module a\nexclude (\nb => c v1.0.0\n)", 3},
		{"module a\nrequire (", 2}, {"module a\nrequire (\nb v1.0.0", 3}, {"module a\nrequire (\nb v1.0.0\n", 4},
		// The first of several lines; and Syntax ahead of a line's other errors.
		{"module a\nx\nrequire B v1.0.0", 2}, {"module a\nmodule A", 2}, {"module a\nrequire B v1 x", 2},
		// The open end is an error of the last line, and goes ahead of its others.
		{"require B v1.0.0", 1}, {"module a\nrequire (\nb v1", 3}, {"module a\nrequire (\nb v1.0.0\nb v1.0.0", 4},
	} {
		got, err := trellis.Print(c.in)
		if want := (api.Fault{Kind: api.Syntax, Line: c.line}); got != "" || faultOf(t, err) != want {
			t.Errorf("P4: Print(%q) = %q, %+v, want %+v", c.in, got, faultOf(t, err), want)
		}
	}
}

func TestPrintWrongWords(t *testing.T) {
	path := func(line int, text string) api.Fault { return api.Fault{Kind: api.Path, Line: line, Path: text} }
	version := func(line int, text string) api.Fault {
		return api.Fault{Kind: api.Version, Line: line, Version: text}
	}
	for _, c := range []struct {
		in   string
		want api.Fault
	}{
		{"module A", path(1, "A")}, {"module a\r", path(1, "a\r")}, {"module a/", path(1, "a/")}, {"module \xff", path(1, "\xff")}, {"module .", path(1, ".")}, {"module a/..", path(1, "a/..")}, {"module (a)", path(1, "(a)")},
		{"module " + strings.Repeat("a", api.MaxPath+1), path(1, strings.Repeat("a", api.MaxPath+1))},
		{"module a\nrequire B v1", path(2, "B")}, {"module a\nrequire b v1", version(2, "v1")}, {"module a\nrequire v1.0.0 b", version(2, "b")},
		{"module a\nrequire b v1.0.0-" + strings.Repeat("a", api.MaxVersion-6), version(2, "v1.0.0-"+strings.Repeat("a", api.MaxVersion-6))},
		{"module a\nexclude B v1", path(2, "B")}, {"module a\nexclude b v1.0.0\r\n", version(2, "v1.0.0\r")},
		{"module a\nreplace B => C v1", path(2, "B")}, {"module a\nreplace b => C v1", path(2, "C")}, {"module a\nreplace b => c v1", version(2, "v1")},
		{"module a\nreplace B v1 => C v2", path(2, "B")}, {"module a\nreplace b v1 => C v2", version(2, "v1")}, {"module a\nreplace b v1.0.0 => C v2", path(2, "C")}, {"module a\nreplace b v1.0.0 => c v2", version(2, "v2")},
		{"module a\n\nrequire (\n// x\nB v1.0.0\n)", path(5, "B")}, {"require (\nmodule a\n)", version(2, "a")},
		// The first line with an error counts, whichever error it is.
		{"module A\nx", path(1, "A")}, {"module a\nrequire b v1\nrequire B v1.0.0", version(2, "v1")}, {"require B v1.0.0\n", path(1, "B")}, {"module a\nrequire (\nb v1\n", version(3, "v1")},
		// A wrong word goes ahead of a line that stands there already.
		{"module a\nrequire b v1.0.0\nrequire b v1", version(3, "v1")}, {"module a\nreplace b => c v1.0.0\nreplace b => C v1.0.0", path(3, "C")},
	} {
		if got, err := trellis.Print(c.in); got != "" || faultOf(t, err) != c.want {
			t.Errorf("P4: Print(%q) = %q, %+v, want %+v", c.in, got, faultOf(t, err), c.want)
		}
	}
}

func TestPrintTwice(t *testing.T) {
	for _, c := range []struct {
		in   string
		line int
	}{
		{"module a\nrequire b v1.0.0\nrequire b v1.0.0", 3}, {"module a\nrequire b v1.0.0\nrequire b v1.1.0", 3}, {"module a\nrequire (\nb v1.0.0\n)\n\nrequire (\nc v1.0.0\nb v2.0.0\n)", 8},
		{"module a\nexclude b v1.0.0\nexclude b v1.1.0\nexclude c v1.0.0\nexclude b v1.1.0", 5},
		{"module a\nreplace b => c v1.0.0\nreplace b => c v1.0.0", 3}, {"module a\nreplace b => c v1.0.0\nreplace b => d v1.0.0", 3}, {"module a\nreplace b v1.0.0 => c v1.0.0\nreplace b v1.1.0 => c v1.0.0\nreplace b => c v1.0.0\nreplace b v1.0.0 => d v1.0.0", 5},
		{"module a\nrequire b v1.0.0\nrequire b v1.0.0\nx", 3}, {"module a\nrequire b v1.0.0\nrequire b v1.0.0\nrequire b v1", 3},
	} {
		got, err := trellis.Print(c.in)
		if want := (api.Fault{Kind: api.Twice, Line: c.line}); got != "" || faultOf(t, err) != want {
			t.Errorf("P4: Print(%q) = %q, %+v, want %+v", c.in, got, faultOf(t, err), want)
		}
	}
}
