// Package changes: which requirements a root has after it was changed.
package changes

import (
	"slices"

	"trellis/api"
	"trellis/catalog"
	"trellis/manifests"
	"trellis/modules"
	"trellis/versions"
)

// Raised are the root's requirements, with the target's path in its version at least; or the *api.Fault of a target that can't be required.
func Raised(root manifests.Parts, known catalog.Catalog, target api.Module) ([]manifests.Requirement, error) {
	if err := check(root, known, target); err != nil {
		return nil, err
	}
	var raised []manifests.Requirement
	for _, r := range root.Requirements {
		if r.Path != target.Path {
			raised = append(raised, r)
		} else if isAbove(api.Module(r), target) && !excludes(root, api.Module(r)) {
			target = api.Module(r)
		}
	}
	return append(raised, manifests.Requirement(target)), nil
}

// check is the *api.Fault of a target that a root can't require; nil, if it can.
func check(root manifests.Parts, known catalog.Catalog, target api.Module) error {
	if target.Path == root.Module.Path {
		return modules.Fault(api.Path, api.Module{Path: target.Path})
	}
	if fault := modules.Check(target); fault != nil {
		return fault
	}
	if _, found := known.Find(target); !found || excludes(root, target) {
		return modules.Fault(api.Missing, target)
	}
	return nil
}

func excludes(root manifests.Parts, m api.Module) bool {
	return slices.Contains(root.Exclusions, manifests.Exclusion(m))
}

// isAbove tells whether a module is the target's in a greater version.
func isAbove(m, target api.Module) bool {
	return m.Path == target.Path && versions.Compare(m.Version, target.Version) > 0
}
