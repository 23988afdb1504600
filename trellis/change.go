package trellis

import "trellis/manifests"

// changed is the one form of a root with the requirements that a change answers.
func changed(root string, change func(manifests.Parts) ([]manifests.Requirement, error)) (string, error) {
	lines, err := manifests.Read(root)
	if err != nil {
		return "", err
	}
	parts := manifests.Gather(lines)
	requirements, err := change(parts)
	if err != nil {
		return "", err
	}
	parts.Requirements = requirements
	return manifests.OneForm(parts.Lines()), nil
}
