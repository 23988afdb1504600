// Package catalog: the releases of a registry, to be found by path and version.
package catalog

import (
	"maps"
	"slices"

	"trellis/api"
	"trellis/modules"
)

// Catalog of the releases that count.
type Catalog struct {
	registry []api.Release
	places   map[api.Module]int
}

// Of a registry: the first release of each path and version, if they are such.
func Of(registry []api.Release) Catalog {
	places := make(map[api.Module]int, len(registry))
	for i, release := range registry {
		name := NameOf(release)
		if _, found := places[name]; !found && modules.Check(name) == nil {
			places[name] = i
		}
	}
	return Catalog{registry, places}
}

// NameOf is the path and version of a release.
func NameOf(r api.Release) api.Module {
	return api.Module{Path: r.Path, Version: r.Version}
}

// Find answers the release of this path and version; false: there is none.
func (c Catalog) Find(name api.Module) (api.Release, bool) {
	place, found := c.places[name]
	if !found {
		return api.Release{}, false
	}
	return c.registry[place], true
}

// Names of all releases that count, by path, then version.
func (c Catalog) Names() []api.Module {
	return slices.SortedFunc(maps.Keys(c.places), modules.Compare)
}
