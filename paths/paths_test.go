package paths

import (
	"strings"
	"testing"

	"trellis/api"
)

func TestCheckTakesPaths(t *testing.T) {
	for _, text := range []string{
		"a", "0", "-", "_", "...", ".a", "a.", "a..b", "..a", "a/b", "a/b/c", "a.b/c-d/e_f/0", "-/-", ".../...",
		"abcdefghijklmnopqrstuvwxyz/0123456789", "require",
		strings.Repeat("a", api.MaxPath), strings.Repeat("a/", api.MaxPath/2-1) + "aa",
	} {
		if fault := Check(text); fault != nil {
			t.Errorf("P4: Check(%q) = %v", text, fault)
		}
	}
}

func TestCheckRefusesOthers(t *testing.T) {
	for _, text := range []string{
		"", "/", "a/", "/a", "a//b", ".", "..", "./a", "../a", "a/.", "a/..", "a/./b", "a/../b",
		"A", "aB", "a b", " a", "a\t", "a\r", "a\n", "a\x00", "a:", "a`", "a{", "a@b", "a+b", "a~", "a\\b", "é", "a\xff", "=>", "(",
		strings.Repeat("a", api.MaxPath+1), strings.Repeat("a/", api.MaxPath/2) + "a",
	} {
		fault := Check(text)
		if fault == nil || *fault != (api.Fault{Kind: api.Path, Path: text}) {
			t.Errorf("P4: Check(%q) = %v", text, fault)
		}
	}
}

func TestCheckEachByte(t *testing.T) {
	for b := range 256 {
		text := "a" + string([]byte{byte(b)}) + "b"
		want := strings.IndexByte("abcdefghijklmnopqrstuvwxyz0123456789.-_/", byte(b)) >= 0
		if got := Check(text) == nil; got != want {
			t.Errorf("P4: is %q a path? %v, want %v", text, got, want)
		}
	}
}
