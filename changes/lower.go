package changes

import (
	"slices"

	"trellis/api"
	"trellis/catalog"
	"trellis/manifests"
	"trellis/modules"
	"trellis/needs"
	"trellis/versions"
)

// Lowered are the root's requirements, each as great as the target allows, with the target itself; or the *api.Fault of a target that can't be required, or that asks for more itself.
func Lowered(root manifests.Parts, known catalog.Catalog, target api.Module) ([]manifests.Requirement, error) {
	if err := check(root, known, target); err != nil {
		return nil, err
	}
	tried := append(lesser(root.Requirements, known, target.Path), manifests.Requirement(target))
	unfit := leading(needs.NewReader(root, known).Needed(tried), func(reading needs.Reading) bool {
		return reading.Fails != 0 || isAbove(reading.Module, target)
	})
	if unfit[target] != 0 {
		return nil, modules.Fault(api.Above, target)
	}
	// What the root excludes was not read, and so fits: as a need of the root it needs nothing.
	fit := slices.DeleteFunc(tried, func(r manifests.Requirement) bool { return unfit[api.Module(r)] != 0 })
	return lastOfEachPath(fit), nil
}

// lesser is all that the registry has of the required paths but this one, in no greater versions than are required, by path, then version.
func lesser(requirements []manifests.Requirement, known catalog.Catalog, but string) []manifests.Requirement {
	most := make(map[string]manifests.Requirement, len(requirements))
	for _, r := range requirements {
		if r.Path != but {
			most[r.Path] = r
		}
	}
	var list []manifests.Requirement
	for _, m := range known.Names() {
		if r, found := most[m.Path]; found && versions.Compare(m.Version, r.Version) <= 0 {
			list = append(list, manifests.Requirement(m))
		}
	}
	return list
}

// lastOfEachPath takes a list in which those of one path stand together.
func lastOfEachPath(list []manifests.Requirement) []manifests.Requirement {
	var last []manifests.Requirement
	for i, r := range list {
		if i+1 == len(list) || list[i+1].Path != r.Path {
			last = append(last, r)
		}
	}
	return last
}
