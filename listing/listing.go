// Package listing: the files of a module that count, in their order.
package listing

import (
	"slices"
	"strings"

	"trellis/api"
)

// InOrder sorts a copy by names, for the list is the caller's; stably, so that of one name the first stays.
func InOrder(files []api.File) []api.File {
	sorted := slices.Clone(files)
	slices.SortStableFunc(sorted, func(a, b api.File) int { return strings.Compare(a.Name, b.Name) })
	return slices.CompactFunc(sorted, func(a, b api.File) bool { return a.Name == b.Name })
}
