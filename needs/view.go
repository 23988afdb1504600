// Package needs: what is needed, seen from a root manifest, and what is read for it.
package needs

import (
	"trellis/api"
	"trellis/manifests"
)

// view: how a root sees the modules. A replacement of all versions stands under the path with an empty version.
type view struct {
	own      string
	excluded map[api.Module]int
	replaced map[api.Module]api.Module
}

func viewFrom(root manifests.Parts) view {
	v := view{root.Module.Path, map[api.Module]int{}, map[api.Module]api.Module{}}
	for _, e := range root.Exclusions {
		v.excluded[api.Module(e)]++
	}
	for _, r := range root.Replacements {
		v.replaced[api.Module{Path: r.Path, Version: r.Version}] = api.Module{Path: r.NewPath, Version: r.NewVersion}
	}
	return v
}

// needs are what requirements ask for, but for what the root excludes and for its own module.
func (v view) needs(requirements []manifests.Requirement) []api.Module {
	var needs []api.Module
	for _, r := range requirements {
		m := api.Module(r)
		if m.Path != v.own && v.excluded[m] == 0 {
			needs = append(needs, m)
		}
	}
	return needs
}

// inPlaceOf is the release that is read for a module; what it is replaced by is not replaced again.
func (v view) inPlaceOf(m api.Module) api.Module {
	if release, found := v.replaced[m]; found {
		return release
	}
	if release, found := v.replaced[api.Module{Path: m.Path}]; found {
		return release
	}
	return m
}
