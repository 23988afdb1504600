package manifests

import (
	"cmp"
	"strings"

	"trellis/versions"
)

// rank: the order of the kinds of lines in the one form.
type rank int

const (
	moduleRank rank = iota
	requirementRank
	exclusionRank
	replacementRank
)

// place: where a line stands in the one form. No two lines may have the same one.
type place struct {
	rank          rank
	path, version string
}

func placeOf(line Line) place {
	switch l := line.(type) {
	case Module:
		return place{moduleRank, l.Path, ""}
	case Requirement:
		// Without the version: a path is required only once.
		return place{requirementRank, l.Path, ""}
	case Exclusion:
		return place{exclusionRank, l.Path, l.Version}
	case Replacement:
		return place{replacementRank, l.Path, l.Version}
	}
	return place{}
}

func comparePlaces(a, b place) int {
	if order := cmp.Compare(a.rank, b.rank); order != 0 {
		return order
	}
	if order := strings.Compare(a.path, b.path); order != 0 {
		return order
	}
	if a.version == "" || b.version == "" {
		// The one without a version comes first.
		return cmp.Compare(len(a.version), len(b.version))
	}
	return versions.Compare(a.version, b.version)
}
