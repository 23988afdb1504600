// Package ledger: the sums by which releases are known, as text.
package ledger

import (
	"slices"
	"strings"

	"trellis/api"
	"trellis/digest"
	"trellis/modules"
)

// Entry: the sum of a release.
type Entry struct {
	Release api.Module
	Sum     string
}

// Read answers the entries of a text, which rise, or the *api.Fault of the first line that is not as it must be.
func Read(text string) ([]Entry, error) {
	var entries []Entry
	for text != "" {
		line, rest, ended := strings.Cut(text, "\n")
		entry, ok := entryOf(line)
		if !ok || !ended || !mayFollow(entries, entry) {
			return nil, &api.Fault{Kind: api.Syntax, Line: len(entries) + 1}
		}
		entries = append(entries, entry)
		text = rest
	}
	return entries, nil
}

// Merge puts entries of releases that were read among those that are known, or answers the *api.Fault of the least release that is known by another sum.
func Merge(known, read []Entry) ([]Entry, error) {
	merged := slices.Concat(known, read)
	slices.SortFunc(merged, compareEntries)
	for i, entry := range merged {
		if i > 0 && merged[i-1].Release == entry.Release && merged[i-1].Sum != entry.Sum {
			return nil, modules.Fault(api.Sum, entry.Release)
		}
	}
	return slices.Compact(merged), nil
}

// Text writes entries, which must rise, as Read reads them.
func Text(entries []Entry) string {
	var text strings.Builder
	for _, entry := range entries {
		text.WriteString(entry.Release.Path + " " + entry.Release.Version + " " + entry.Sum + "\n")
	}
	return text.String()
}

func entryOf(line string) (Entry, bool) {
	words := strings.Split(line, " ")
	if len(words) != 3 {
		return Entry{}, false
	}
	entry := Entry{api.Module{Path: words[0], Version: words[1]}, words[2]}
	return entry, modules.Check(entry.Release) == nil && digest.IsSum(entry.Sum)
}

func mayFollow(entries []Entry, next Entry) bool {
	return len(entries) == 0 || compareEntries(entries[len(entries)-1], next) < 0
}

func compareEntries(a, b Entry) int { return modules.Compare(a.Release, b.Release) }
