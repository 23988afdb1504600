package ledger

import (
	"errors"
	"slices"
	"testing"

	"trellis/api"
)

const (
	one = "0123456789abcdef"
	two = "fedcba9876543210"
)

func entry(path, version, sum string) Entry {
	return Entry{api.Module{Path: path, Version: version}, sum}
}

func TestReadAndText(t *testing.T) {
	for _, c := range []struct {
		text string
		want []Entry
	}{
		{"", nil},
		{"b v1.0.0 " + one + "\n", []Entry{entry("b", "v1.0.0", one)}},
		{"b v1.9.0 " + one + "\nb v1.10.0-rc " + one + "\nb v1.10.0 " + two + "\nb/c v0.1.0 " + one + "\n", []Entry{entry("b", "v1.9.0", one), entry("b", "v1.10.0-rc", one), entry("b", "v1.10.0", two), entry("b/c", "v0.1.0", one)}},
	} {
		got, err := Read(c.text)
		if err != nil || !slices.Equal(got, c.want) {
			t.Errorf("P6: Read(%q) = %v, %v", c.text, got, err)
		}
		if text := Text(got); text != c.text {
			t.Errorf("P6: Text of Read of %q is %q", c.text, text)
		}
	}
}

func TestReadTellsTheLine(t *testing.T) {
	good := "b v1.0.0 " + one + "\n"
	for _, bad := range []string{
		"\n", " \n", "x\n", "c v1.0.0\n", "c v1.0.0 \n", "c " + one + "\n", "c v1.0.0 " + one, "c v1.0.0 " + one + " \n", " c v1.0.0 " + one + "\n", "c  v1.0.0 " + one + "\n", "c v1.0.0  " + one + "\n",
		"c\tv1.0.0 " + one + "\n", "c v1.0.0 " + one + "\r\n", "c v1.0.0 " + one + " " + one + "\n", "c v1.0.0 " + one[1:] + "\n", "c v1.0.0 " + one + "0\n", "c v1.0.0 0123456789abcdeF\n", "c v1.0.0 0123456789abcdeg\n", "c v1.0.0 0123456789abcd\u00e9\n", "c v1.0.0 /:`g/:`g/:`g/:`g\n",
		"C v1.0.0 " + one + "\n", "c v1 " + one + "\n", "// c\n", good, "a v1.0.0 " + one + "\n", "b v0.9.0 " + one + "\n", "b v1.0.0-rc " + one + "\n", "b v1.0.0 " + two + "\n",
	} {
		for _, behind := range []string{"", "\n", "z\n", good} {
			text := good + bad
			if bad[len(bad)-1] == '\n' {
				text += behind
			}
			entries, err := Read(text)
			var fault *api.Fault
			if !errors.As(err, &fault) || *fault != (api.Fault{Kind: api.Syntax, Line: 2}) || len(entries) != 0 {
				t.Errorf("P6: Read(%q) = %v, %+v", text, entries, fault)
			}
		}
	}
}

func TestMerge(t *testing.T) {
	known := []Entry{entry("b", "v1.0.0", one), entry("b", "v1.10.0", two), entry("d", "v1.0.0", one)}
	before := slices.Clone(known)
	got, err := Merge(known[:2], []Entry{entry("a", "v2.0.0", one), entry("b", "v1.9.0", one), entry("b", "v1.10.0", two), entry("c", "v1.0.0", one)})
	want := []Entry{entry("a", "v2.0.0", one), entry("b", "v1.0.0", one), entry("b", "v1.9.0", one), entry("b", "v1.10.0", two), entry("c", "v1.0.0", one)}
	if err != nil || !slices.Equal(got, want) {
		t.Errorf("P6: Merge answers %v, %v", got, err)
	}
	if !slices.Equal(known, before) {
		t.Errorf("P2: what was known is now %v", known)
	}
}

func TestMergeTellsTheLeast(t *testing.T) {
	known := []Entry{entry("b", "v1.0.0", one), entry("b", "v1.9.0", one), entry("b", "v1.10.0", one), entry("c", "v1.0.0", one)}
	got, err := Merge(known, []Entry{entry("a", "v1.0.0", two), entry("b", "v1.0.0", one), entry("b", "v1.9.0", two), entry("b", "v1.10.0", two), entry("c", "v1.0.0", two)})
	var fault *api.Fault
	if !errors.As(err, &fault) || *fault != (api.Fault{Kind: api.Sum, Path: "b", Version: "v1.9.0"}) || len(got) != 0 {
		t.Errorf("P6: Merge answers %v, %+v", got, fault)
	}
}
