package manifests

// Parts: what the lines of a manifest say, each kind by itself, as they stand there.
type Parts struct {
	Module       Module
	Requirements []Requirement
	Exclusions   []Exclusion
	Replacements []Replacement
}

// Gather puts each line, of those that Read has answered, with its kind.
func Gather(lines []Line) Parts {
	var parts Parts
	for _, line := range lines {
		switch l := line.(type) {
		case Module:
			parts.Module = l
		case Requirement:
			parts.Requirements = append(parts.Requirements, l)
		case Exclusion:
			parts.Exclusions = append(parts.Exclusions, l)
		case Replacement:
			parts.Replacements = append(parts.Replacements, l)
		}
	}
	return parts
}

// Lines are the parts as one list again.
func (p Parts) Lines() []Line {
	lines := []Line{p.Module}
	for _, r := range p.Requirements {
		lines = append(lines, r)
	}
	for _, e := range p.Exclusions {
		lines = append(lines, e)
	}
	for _, r := range p.Replacements {
		lines = append(lines, r)
	}
	return lines
}
