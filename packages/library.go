package packages

import (
	"slices"
	"strings"

	"trellis/api"
	"trellis/listing"
	"trellis/paths"
	"trellis/sources"
)

// Module: a module by its path, with its files.
type Module struct {
	Path  string
	Files []api.File
}

// place: where a package can be: in which module, in which directory of it.
type place struct{ module, directory string }

// library: the sources of each place, by rising names.
type library struct {
	numbers map[place]int
	sources [][]api.File
}

func libraryOf(modules []Module) library {
	l := library{numbers: map[place]int{}}
	for _, m := range modules {
		for _, file := range listing.InOrder(m.Files) {
			if sources.IsSource(file.Name) {
				l.add(place{m.Path, sources.DirectoryOf(file.Name)}, file)
			}
		}
	}
	return l
}

func (l *library) add(at place, source api.File) {
	number, found := l.numbers[at]
	if !found {
		number = len(l.sources)
		l.numbers[at] = number
		l.sources = append(l.sources, nil)
	}
	l.sources[number] = append(l.sources[number], source)
}

// imports are what the sources of a package import, each once, in rising order; or the *api.Fault by which it is not found, or of a source that can't be read.
func (l library) imports(path string) ([]string, error) {
	found, err := l.find(path)
	if err != nil {
		return nil, err
	}
	var all []string
	for _, source := range found {
		list, ok := sources.Imports(source.Data)
		if !ok {
			return nil, faultOf(api.Source, path, source.Name)
		}
		all = append(all, list...)
	}
	return rising(all), nil
}

// find answers the sources of a package, or the *api.Fault by which it is not found.
func (l library) find(path string) ([]api.File, error) {
	if fault := paths.Check(path); fault != nil {
		return nil, fault
	}
	var found [][]api.File
	for _, at := range placesOf(path) {
		if number, has := l.numbers[at]; has {
			found = append(found, l.sources[number])
		}
	}
	switch len(found) {
	case 0:
		return nil, faultOf(api.Unknown, path, "")
	case 1:
		return found[0], nil
	}
	return nil, faultOf(api.Ambiguous, path, "")
}

// placesOf are all places where a package of this path can be.
func placesOf(path string) []place {
	places := []place{{module: path}}
	for i := range len(path) {
		if path[i] == '/' {
			places = append(places, place{path[:i], path[i+1:]})
		}
	}
	return places
}

// rising sorts a copy, for the list may be the caller's, and keeps each text once.
func rising(texts []string) []string {
	sorted := slices.Clone(texts)
	slices.Sort(sorted)
	return slices.Compact(sorted)
}

// faultOf copies what it tells, so that the fault does not hold on to what the texts were cut from.
func faultOf(kind api.Kind, path, name string) *api.Fault {
	return &api.Fault{Kind: kind, Path: strings.Clone(path), Version: strings.Clone(name)}
}
