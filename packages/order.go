// Package packages: which modules have which packages, and in which order packages can be built.
package packages

import (
	"strings"

	"trellis/api"
)

// state: how far the ordering of a package is.
type state int

const (
	unseen  state = iota
	pending       // its imports are being ordered
	told
)

// step: a package that is pending, and those of its imports that were not come to yet.
type step struct {
	path    string
	imports []string
}

// order: what was told so far, and the way down to where the ordering is.
type order struct {
	library library
	states  map[string]state
	steps   []step
	list    []string
}

// Order answers these packages and all that they import, each behind its imports; or the *api.Fault of the first error that is come to.
func Order(modules []Module, from []string) ([]string, error) {
	o := order{library: libraryOf(modules), states: map[string]state{}}
	for _, path := range rising(from) {
		if err := o.tellAll(path); err != nil {
			return nil, err
		}
	}
	return o.list, nil
}

// tellAll tells a package and all that it imports. It keeps the way down in a list, and does not call itself: imports may go deeper than calls can.
func (o *order) tellAll(path string) error {
	if err := o.comeTo(path); err != nil {
		return err
	}
	for len(o.steps) > 0 {
		last := &o.steps[len(o.steps)-1]
		if len(last.imports) == 0 {
			o.tell(last.path)
			continue
		}
		next := last.imports[0]
		last.imports = last.imports[1:]
		if err := o.comeTo(next); err != nil {
			return err
		}
	}
	return nil
}

// comeTo begins with a package, unless it was told already.
func (o *order) comeTo(path string) error {
	switch o.states[path] {
	case told:
		return nil
	case pending:
		return faultOf(api.Ring, path, "")
	}
	imports, err := o.library.imports(path)
	if err != nil {
		return err
	}
	o.states[path] = pending
	o.steps = append(o.steps, step{path, imports})
	return nil
}

// tell ends the last step, which is that of this package.
func (o *order) tell(path string) {
	o.steps = o.steps[:len(o.steps)-1]
	o.states[path] = told
	// A copy, so that the answer does not hold on to the source that the path was cut from.
	o.list = append(o.list, strings.Clone(path))
}
