// Package trellis: which versions of modules are taken: see DOC.md.
package trellis

import (
	"trellis/api"
	"trellis/catalog"
	"trellis/changes"
	"trellis/digest"
	"trellis/ledger"
	"trellis/manifests"
	"trellis/needs"
	"trellis/packages"
	"trellis/versions"
)

// Compare tells which of two versions is greater (P3).
func Compare(a, b string) (int, error) {
	if fault := versions.Check(a); fault != nil {
		return 0, fault
	}
	if fault := versions.Check(b); fault != nil {
		return 0, fault
	}
	return versions.Compare(a, b), nil
}

// Print writes a manifest in its one form (P4).
func Print(manifest string) (string, error) {
	lines, err := manifests.Read(manifest)
	if err != nil {
		return "", err
	}
	return manifests.OneForm(lines), nil
}

// Digest is the sum of a release (P5).
func Digest(r api.Release) string { return digest.Of(r) }

// Load picks the versions (P6, P7).
func Load(root string, registry []api.Release, sums string) (api.Build, error) {
	lines, err := manifests.Read(root)
	if err != nil {
		return api.Build{}, err
	}
	known, err := ledger.Read(sums)
	if err != nil {
		return api.Build{}, err
	}
	parts := manifests.Gather(lines)
	readings := needs.NewReader(parts, catalog.Of(registry)).Needed(parts.Requirements)
	if err := needs.Failing(readings); err != nil {
		return api.Build{}, err
	}
	entries, err := ledger.Merge(known, entriesOf(readings))
	if err != nil {
		return api.Build{}, err
	}
	return api.Build{List: listOf(needs.Taken(readings)), Sums: ledger.Text(entries)}, nil
}

// Upgrade requires a version (P8).
func Upgrade(root string, registry []api.Release, path, version string) (string, error) {
	return changed(root, func(parts manifests.Parts) ([]manifests.Requirement, error) {
		return changes.Raised(parts, catalog.Of(registry), api.Module{Path: path, Version: version})
	})
}

// Downgrade allows no more than a version (P9).
func Downgrade(root string, registry []api.Release, path, version string) (string, error) {
	return changed(root, func(parts manifests.Parts) ([]manifests.Requirement, error) {
		return changes.Lowered(parts, catalog.Of(registry), api.Module{Path: path, Version: version})
	})
}

// Minimize requires no more than must be (P10).
func Minimize(root string, registry []api.Release) (string, error) {
	return changed(root, func(parts manifests.Parts) ([]manifests.Requirement, error) {
		return changes.Thinned(parts, catalog.Of(registry))
	})
}

// Packages puts packages in the order in which they are built (P11).
func Packages(root string, registry []api.Release, files []api.File, from []string) ([]string, error) {
	lines, err := manifests.Read(root)
	if err != nil {
		return nil, err
	}
	parts := manifests.Gather(lines)
	readings := needs.NewReader(parts, catalog.Of(registry)).Needed(parts.Requirements)
	if err := needs.Failing(readings); err != nil {
		return nil, err
	}
	return packages.Order(modulesOf(parts.Module.Path, files, needs.Taken(readings)), from)
}
