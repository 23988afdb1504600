package changes

import (
	"slices"
	"strings"

	"trellis/api"
	"trellis/catalog"
	"trellis/manifests"
	"trellis/needs"
)

// Thinned are the root's requirements but those without which, path by path, the same is taken; or the *api.Fault of what fails.
func Thinned(root manifests.Parts, known catalog.Catalog) ([]manifests.Requirement, error) {
	readings := needs.NewReader(root, known).Needed(root.Requirements)
	if err := needs.Failing(readings); err != nil {
		return nil, err
	}
	rising := slices.Clone(root.Requirements)
	slices.SortFunc(rising, func(a, b manifests.Requirement) int { return strings.Compare(a.Path, b.Path) })
	return enough(graphOf(readings), needs.Taken(readings), rising), nil
}

// enough keeps a requirement if something hangs on it that is not reached from those that were kept ahead of it. Nothing else could be lost with it: what hangs on a later one is reached from there, and what hangs on an earlier one is reached from those that were kept.
func enough(g graph, taken []needs.Reading, rising []manifests.Requirement) []manifests.Requirement {
	hanging := hangingOn(rising, g, taken)
	reached := make([]int, len(g.edges))
	isLost := func(place int) bool { return reached[place] == 0 }
	var kept []manifests.Requirement
	for i, r := range rising {
		if slices.ContainsFunc(hanging[i], isLost) {
			kept = append(kept, r)
			g.spread(api.Module(r), 1, reached)
		}
	}
	return kept
}

// hangingOn tells for each requirement the places of what is taken that it is the last one to lead to.
func hangingOn(rising []manifests.Requirement, g graph, taken []needs.Reading) [][]int {
	last := make([]int, len(g.edges))
	for i := len(rising) - 1; i >= 0; i-- {
		g.spread(api.Module(rising[i]), i+1, last)
	}
	hanging := make([][]int, len(rising))
	for _, reading := range taken {
		place := g.places[reading.Module]
		hanging[last[place]-1] = append(hanging[last[place]-1], place)
	}
	return hanging
}
