// Package manifests: what the lines of a manifest say, their errors, and their one form.
package manifests

// Line is what a line of a manifest says: a Module, a Requirement, an Exclusion or a Replacement.
type Line interface {
	// Text is the line as it stands in the one form, without its end.
	Text() string
}

// Module: whose manifest it is.
type Module struct{ Path string }

// Requirement: a module that is needed, in this version at least.
type Requirement struct{ Path, Version string }

// Exclusion: a module in a version that must not be needed.
type Exclusion struct{ Path, Version string }

// Replacement: what is read in place of a module in a version or, where the version is empty, in all.
type Replacement struct{ Path, Version, NewPath, NewVersion string }

// Text is `module P`.
func (m Module) Text() string { return "module " + m.Path }

// Text is `require P V`.
func (r Requirement) Text() string { return "require " + r.Path + " " + r.Version }

// Text is `exclude P V`.
func (e Exclusion) Text() string { return "exclude " + e.Path + " " + e.Version }

// Text is `replace P => P V` or `replace P V => P V`.
func (r Replacement) Text() string {
	old := r.Path
	if r.Version != "" {
		old += " " + r.Version
	}
	return "replace " + old + " => " + r.NewPath + " " + r.NewVersion
}
