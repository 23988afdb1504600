package manifests

import (
	"trellis/api"
	"trellis/modules"
	"trellis/paths"
)

// check is the first fault of statements that have their form: of each line first its words, then whether it stands there already.
func check(statements []statement) *api.Fault {
	taken := map[place]int{}
	for _, s := range statements {
		if fault := checkWords(s.says); fault != nil {
			fault.Line = s.number
			return fault
		}
		where := placeOf(s.says)
		if taken[where] != 0 {
			return &api.Fault{Kind: api.Twice, Line: s.number}
		}
		taken[where] = s.number
	}
	return nil
}

// checkWords is the fault of the first word from the left that is not the path or version it should be.
func checkWords(line Line) *api.Fault {
	switch l := line.(type) {
	case Module:
		return paths.Check(l.Path)
	case Requirement:
		return checkModule(l.Path, l.Version)
	case Exclusion:
		return checkModule(l.Path, l.Version)
	case Replacement:
		if fault := checkReplaced(l); fault != nil {
			return fault
		}
		return checkModule(l.NewPath, l.NewVersion)
	}
	return nil
}

func checkModule(path, version string) *api.Fault {
	return modules.Check(api.Module{Path: path, Version: version})
}

func checkReplaced(r Replacement) *api.Fault {
	if r.Version == "" {
		return paths.Check(r.Path)
	}
	return checkModule(r.Path, r.Version)
}
