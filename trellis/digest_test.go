package trellis_test

import (
	"fmt"
	"hash/fnv"
	"strings"
	"testing"

	"trellis/api"
	"trellis/trellis"
)

// fnvOf: the document's hash, as Go's library has it.
func fnvOf(text string) string {
	h := fnv.New64a()
	h.Write([]byte(text))
	return fmt.Sprintf("%016x", h.Sum64())
}

func TestDigestIsTheHash(t *testing.T) {
	for _, c := range []struct {
		release api.Release
		bytes   string
	}{
		{api.Release{}, "\x00\x00\x00"},
		{api.Release{Files: []api.File{}}, "\x00\x00\x00"},
		{api.Release{Path: "a", Version: "v1.0.0", Manifest: "module a\n"}, "a\x00v1.0.0\x00module a\n\x00"},
		{api.Release{Path: "a", Files: []api.File{{Name: "", Data: ""}}}, "a\x00\x00\x00\x00\x00"},
		// Whatever path, version and manifest are.
		{api.Release{Path: "A B\x00", Version: "\xff", Manifest: "nonsense"}, "A B\x00\x00\xff\x00nonsense\x00"},
		// Names byte by byte, each once, its first data.
		{api.Release{Files: []api.File{{Name: "b", Data: "1"}, {Name: "a/b", Data: "2"}, {Name: "B", Data: "3"}, {Name: "a", Data: "4"}, {Name: "b", Data: "5"}, {Name: "\xff", Data: "6"}, {Name: "", Data: "7"}, {Name: "a", Data: "0"}}}, "\x00\x00\x00" + "\x007\x00" + "B\x003\x00" + "a\x004\x00" + "a/b\x002\x00" + "b\x001\x00" + "\xff\x006\x00"},
		{api.Release{Files: []api.File{{Name: "a", Data: strings.Repeat("x\x00", 100000)}}}, "\x00\x00\x00a\x00" + strings.Repeat("x\x00", 100000) + "\x00"},
	} {
		if got, want := trellis.Digest(c.release), fnvOf(c.bytes); got != want {
			t.Errorf("P5: Digest(%.200q) = %q, want %q", c.release, got, want)
		}
	}
}

// TestDigestOfManyOfOneName: the first stays the first in a list that is long enough to be sorted in pieces.
func TestDigestOfManyOfOneName(t *testing.T) {
	var files []api.File
	for i := range 1000 {
		files = append(files, api.File{Name: string(rune('a' + i*7%26)), Data: fmt.Sprint(i)})
	}
	first := map[string]string{}
	for _, f := range files {
		if _, ok := first[f.Name]; !ok {
			first[f.Name] = f.Data
		}
	}
	bytes := "\x00\x00\x00"
	for c := 'a'; c <= 'z'; c++ {
		bytes += string(c) + "\x00" + first[string(c)] + "\x00"
	}
	if got, want := trellis.Digest(api.Release{Files: files}), fnvOf(bytes); got != want {
		t.Errorf("P5: Digest of many files of one name = %q, want %q", got, want)
	}
}

// TestDigestWritten: some sums written out, that hang on no other hash.
func TestDigestWritten(t *testing.T) {
	for _, c := range []struct {
		release api.Release
		want    string
	}{
		{api.Release{}, "d94d12186c0f2fb7"},
		{api.Release{Path: "a", Version: "v1.0.0", Manifest: "module a\n", Files: []api.File{{Name: "a.tl", Data: "x"}}}, "da838fd6dd2c747f"},
	} {
		if got := trellis.Digest(c.release); got != c.want {
			t.Errorf("P5: Digest(%q) = %q, want %q", c.release, got, c.want)
		}
	}
}
