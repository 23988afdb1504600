package needs

import (
	"slices"

	"trellis/api"
	"trellis/manifests"
	"trellis/modules"
)

// Needed reads all that is needed if the root has these requirements, each once, and answers it by path, then version.
func (r Reader) Needed(requirements []manifests.Requirement) []Reading {
	var all []Reading
	found := map[api.Module]int{}
	fresh := addNew(found, r.view.needs(requirements))
	for len(fresh) > 0 {
		readings := r.readAtOnce(fresh)
		all = append(all, readings...)
		fresh = addNew(found, needsOf(readings))
	}
	slices.SortFunc(all, compareReadings)
	return all
}

// Failing is the *api.Fault of the first one that fails, of what Needed has answered; nil, if none does.
func Failing(readings []Reading) error {
	for _, reading := range readings {
		if reading.Fails != 0 {
			return modules.Fault(reading.Fails, reading.Module)
		}
	}
	return nil
}

// Taken keeps of each path the greatest version, of what Needed has answered.
func Taken(readings []Reading) []Reading {
	var taken []Reading
	for i, reading := range readings {
		if i+1 == len(readings) || readings[i+1].Module.Path != reading.Module.Path {
			taken = append(taken, reading)
		}
	}
	return taken
}

// addNew notes what was not found before, and answers it: each once, so that a ring ends.
func addNew(found map[api.Module]int, list []api.Module) []api.Module {
	var fresh []api.Module
	for _, m := range list {
		if found[m] == 0 {
			fresh = append(fresh, m)
		}
		found[m]++
	}
	return fresh
}

func needsOf(readings []Reading) []api.Module {
	var all []api.Module
	for _, reading := range readings {
		all = append(all, reading.Needs...)
	}
	return all
}
