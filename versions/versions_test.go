package versions

import (
	"regexp"
	"strings"
	"testing"

	"trellis/api"
)

const (
	number = `(0|[1-9][0-9]*)`
	mark   = `(0|[1-9][0-9]*|[0-9]*[a-zA-Z-][0-9a-zA-Z-]*)`
)

// form: the document's words on versions once more, as an expression (but for the length).
var form = regexp.MustCompile(`^v` + number + `\.` + number + `\.` + number + `(-` + mark + `(\.` + mark + `)*)?$`)

// each calls f with every text of at most n of the letters behind a head.
func each(head, letters string, n int, f func(string)) {
	f(head)
	if n == 0 {
		return
	}
	for i := range len(letters) {
		each(head+letters[i:i+1], letters, n-1, f)
	}
}

func TestCheckAgainstTheForm(t *testing.T) {
	check := func(text string) {
		if got, want := Check(text) == nil, form.MatchString(text); got != want {
			t.Errorf("P3: is %q a version? %v, want %v", text, got, want)
		}
	}
	each("", "v01.-a", 6, check)
	each("v", "01.-a", 7, check)
	each("v1.0.0", "012.-aZ", 5, check)
	each("v1.0.0-", "09azAZ-./:@[`{+_ \x00\x80\n", 3, check)
}

func TestCheckTellsTheText(t *testing.T) {
	for _, text := range []string{"", "x", "v1.0", "v1.0.0\n", strings.Repeat("v", 100)} {
		fault := Check(text)
		if fault == nil || *fault != (api.Fault{Kind: api.Version, Version: text}) {
			t.Errorf("P3: Check(%q) = %v", text, fault)
		}
	}
}

func TestCheckLength(t *testing.T) {
	for _, head := range []string{"v1.0.", "v1.0.0-", "v1.0.0-1."} {
		longest := head + strings.Repeat("1", api.MaxVersion-len(head))
		if Check(longest) != nil {
			t.Errorf("P3: %q of %d bytes is no version", longest, len(longest))
		}
		if Check(longest+"1") == nil {
			t.Errorf("P3: %q of %d bytes is a version", longest+"1", len(longest)+1)
		}
	}
}

// TestCompareIsAnOrder holds all versions of a small kind against each other, by threes.
func TestCompareIsAnOrder(t *testing.T) {
	var texts []string
	each("v1.0.0", "1.-a", 4, func(text string) {
		if Check(text) == nil {
			texts = append(texts, text)
		}
	})
	for _, a := range texts {
		for _, b := range texts {
			if Compare(a, b) != -Compare(b, a) || (Compare(a, b) == 0) != (a == b) {
				t.Fatalf("P3: Compare(%s, %s) = %d, but %d the other way", a, b, Compare(a, b), Compare(b, a))
			}
			for _, c := range texts {
				if Compare(a, b) < 0 && Compare(b, c) < 0 && Compare(a, c) >= 0 {
					t.Fatalf("P3: %s < %s < %s, but not the first and the last", a, b, c)
				}
			}
		}
	}
}
