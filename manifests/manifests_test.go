package manifests

import (
	"slices"
	"testing"
)

func TestReadTellsTheLinesAsTheyStand(t *testing.T) {
	lines, err := Read("module m\nrequire (\nc v2.0.0\nb v1.0.0\n)\nreplace b => d v1.0.0\nreplace b v1.0.0 => e v1.1.0\nexclude c v1.0.0\n")
	want := []Line{
		Module{"m"},
		Requirement{"c", "v2.0.0"}, Requirement{"b", "v1.0.0"},
		Replacement{"b", "", "d", "v1.0.0"}, Replacement{"b", "v1.0.0", "e", "v1.1.0"},
		Exclusion{"c", "v1.0.0"},
	}
	if err != nil || !slices.Equal(lines, want) {
		t.Errorf("P4: Read: %v, %v", lines, err)
	}
}

func TestReadWithAFaultTellsNoLines(t *testing.T) {
	for _, text := range []string{"", "module a\nnonsense", "module a\nrequire B v1.0.0", "module a\nrequire b v1", "module a\nrequire b v1.0.0\nrequire b v1.0.0"} {
		if lines, err := Read(text); err == nil || len(lines) != 0 {
			t.Errorf("P1: Read(%q) = %v, %v", text, lines, err)
		}
	}
}

func TestTexts(t *testing.T) {
	for _, c := range []struct {
		line Line
		want string
	}{
		{Module{"a"}, "module a"},
		{Requirement{"a", "v1.0.0"}, "require a v1.0.0"},
		{Exclusion{"a", "v1.0.0"}, "exclude a v1.0.0"},
		{Replacement{"a", "", "b", "v2.0.0"}, "replace a => b v2.0.0"},
		{Replacement{"a", "v1.0.0", "b", "v2.0.0"}, "replace a v1.0.0 => b v2.0.0"},
	} {
		if got := c.line.Text(); got != c.want {
			t.Errorf("P4: the text %q, want %q", got, c.want)
		}
	}
}

func TestOneFormLeavesTheLines(t *testing.T) {
	lines := []Line{Module{"m"}, Requirement{"c", "v1.0.0"}, Requirement{"b", "v1.0.0"}}
	before := slices.Clone(lines)
	if got := OneForm(lines); got != "module m\nrequire b v1.0.0\nrequire c v1.0.0\n" {
		t.Errorf("P4: the one form is %q", got)
	}
	if !slices.Equal(lines, before) {
		t.Errorf("P2: the lines are now %v", lines)
	}
}

func TestTokens(t *testing.T) {
	for _, c := range []struct {
		line string
		want []token
	}{
		{"", nil},
		{" \t ", nil},
		{"// a", nil},
		{"\ta \t b\t", []token{{word, "a"}, {word, "b"}}},
		{"a//b c", []token{{word, "a"}}},
		{"a / /b", []token{{word, "a"}, {word, "/"}, {word, "/b"}}},
		{"( ) => (a =>)", []token{{opening, "("}, {closing, ")"}, {arrow, "=>"}, {word, "(a"}, {word, "=>)"}}},
		{"a\r\v\f\u00a0\xff b", []token{{word, "a\r\v\f\u00a0\xff"}, {word, "b"}}},
	} {
		if got := tokensOf(c.line); !slices.Equal(got, c.want) {
			t.Errorf("P4: the tokens of %q: %v", c.line, got)
		}
	}
}

func TestGather(t *testing.T) {
	got := Gather([]Line{
		Module{"m"}, Exclusion{"c", "v1.0.0"}, Requirement{"c", "v2.0.0"},
		Replacement{"b", "v1.0.0", "e", "v1.1.0"}, Requirement{"b", "v1.0.0"}, Replacement{"b", "", "d", "v1.0.0"}, Exclusion{"a", "v1.0.0"},
	})
	if got.Module != (Module{"m"}) ||
		!slices.Equal(got.Requirements, []Requirement{{"c", "v2.0.0"}, {"b", "v1.0.0"}}) ||
		!slices.Equal(got.Exclusions, []Exclusion{{"c", "v1.0.0"}, {"a", "v1.0.0"}}) ||
		!slices.Equal(got.Replacements, []Replacement{{"b", "v1.0.0", "e", "v1.1.0"}, {"b", "", "d", "v1.0.0"}}) {
		t.Errorf("P6: gathered: %+v", got)
	}
}

func TestLinesOfParts(t *testing.T) {
	parts := Parts{
		Module:       Module{"m"},
		Requirements: []Requirement{{"c", "v2.0.0"}, {"b", "v1.0.0"}},
		Exclusions:   []Exclusion{{"c", "v1.0.0"}, {"a", "v1.0.0"}},
		Replacements: []Replacement{{"b", "", "d", "v1.0.0"}},
	}
	want := []Line{Module{"m"}, Requirement{"c", "v2.0.0"}, Requirement{"b", "v1.0.0"}, Exclusion{"c", "v1.0.0"}, Exclusion{"a", "v1.0.0"}, Replacement{"b", "", "d", "v1.0.0"}}
	if got := parts.Lines(); !slices.Equal(got, want) {
		t.Errorf("P8: the lines %v", got)
	}
	if got := (Parts{Module: Module{"m"}}).Lines(); !slices.Equal(got, []Line{Module{"m"}}) {
		t.Errorf("P8: the lines of a module alone %v", got)
	}
}
