package digest

import (
	"fmt"
	"hash/fnv"
	"testing"

	"trellis/api"
)

// TestTextHasAllDigits: noughts ahead are written too.
func TestTextHasAllDigits(t *testing.T) {
	for h, want := range map[hash]string{
		0:                  "0000000000000000",
		0xf:                "000000000000000f",
		0x0123456789abcdef: "0123456789abcdef",
		1<<64 - 1:          "ffffffffffffffff",
	} {
		if got := h.text(); got != want {
			t.Errorf("P5: the text of %x is %q", uint64(h), got)
		}
	}
}

func TestSumsWithNoughtsAhead(t *testing.T) {
	short := 0
	for i := range 2000 {
		path := fmt.Sprint(i)
		h := fnv.New64a()
		h.Write([]byte(path + "\x00\x00\x00"))
		want := fmt.Sprintf("%016x", h.Sum64())
		if got := Of(api.Release{Path: path}); got != want {
			t.Errorf("P5: the sum of path %q is %q, want %q", path, got, want)
		}
		if want[0] == '0' {
			short++
		}
	}
	if short == 0 {
		t.Error("no sum with a nought ahead was tried")
	}
}

func TestIsSum(t *testing.T) {
	for text, want := range map[string]bool{
		"0000000000000000": true, "0123456789abcdef": true, "ffffffffffffffff": true,
		"": false, "000000000000000": false, "00000000000000000": false,
		"000000000000000A": false, "000000000000000F": false, "000000000000000g": false, "000000000000000/": false, "000000000000000:": false, "000000000000000`": false, "000000000000000 ": false, "00000000000000\u00e9": false,
	} {
		if got := IsSum(text); got != want {
			t.Errorf("P6: IsSum(%q) = %t", text, got)
		}
	}
}
