package trellis

import (
	"slices"

	"trellis/api"
	"trellis/catalog"
	"trellis/digest"
	"trellis/ledger"
	"trellis/modules"
	"trellis/needs"
)

// listOf is the path and version of each module, as it is needed.
func listOf(taken []needs.Reading) []api.Module {
	list := make([]api.Module, 0, len(taken))
	for _, reading := range taken {
		list = append(list, modules.Copy(reading.Module))
	}
	return list
}

// entriesOf are the sums of the releases that were read; one that was read for several modules is summed only once.
func entriesOf(readings []needs.Reading) []ledger.Entry {
	entries := make([]ledger.Entry, 0, len(readings))
	for _, release := range releasesOf(readings) {
		entries = append(entries, ledger.Entry{Release: catalog.NameOf(release), Sum: digest.Of(release)})
	}
	return entries
}

func releasesOf(readings []needs.Reading) []api.Release {
	releases := make([]api.Release, 0, len(readings))
	for _, reading := range readings {
		releases = append(releases, reading.Release)
	}
	slices.SortFunc(releases, compareReleases)
	return slices.CompactFunc(releases, func(a, b api.Release) bool { return compareReleases(a, b) == 0 })
}

func compareReleases(a, b api.Release) int {
	return modules.Compare(catalog.NameOf(a), catalog.NameOf(b))
}
