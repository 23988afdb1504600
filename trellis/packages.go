package trellis

import (
	"trellis/api"
	"trellis/needs"
	"trellis/packages"
)

// modulesOf are the root's own module and those that are taken, each under the path by which it is needed, with the files of what was read for it.
func modulesOf(own string, files []api.File, taken []needs.Reading) []packages.Module {
	modules := []packages.Module{{Path: own, Files: files}}
	for _, reading := range taken {
		modules = append(modules, packages.Module{Path: reading.Module.Path, Files: reading.Release.Files})
	}
	return modules
}
