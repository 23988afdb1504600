// Package modules: what is a module in a version, and the order of such.
package modules

import (
	"strings"

	"trellis/api"
	"trellis/paths"
	"trellis/versions"
)

// Check is the fault of the path, if it is none, or else of the version; nil, if both are what they should be.
func Check(m api.Module) *api.Fault {
	if fault := paths.Check(m.Path); fault != nil {
		return fault
	}
	return versions.Check(m.Version)
}

// Compare tells the order of two modules in versions: by path, then version.
func Compare(a, b api.Module) int {
	if order := strings.Compare(a.Path, b.Path); order != 0 {
		return order
	}
	return versions.Compare(a.Version, b.Version)
}

// Copy has new memory, so that an answer does not hold on to the text that a module was cut from.
func Copy(m api.Module) api.Module {
	return api.Module{Path: strings.Clone(m.Path), Version: strings.Clone(m.Version)}
}

// Fault is one of this kind, with the path and version of a module.
func Fault(kind api.Kind, m api.Module) *api.Fault {
	m = Copy(m)
	return &api.Fault{Kind: kind, Path: m.Path, Version: m.Version}
}
