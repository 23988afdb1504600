package changes

import (
	"errors"
	"slices"
	"strings"
	"testing"

	"trellis/api"
	"trellis/catalog"
	"trellis/manifests"
	"trellis/needs"
)

func named(name string) api.Module {
	path, version, _ := strings.Cut(name, " ")
	return api.Module{Path: path, Version: version}
}

// reading: of "b v1.0.0" and its needs.
func reading(name string, all ...string) needs.Reading {
	r := needs.Reading{Module: named(name)}
	for _, need := range all {
		r.Needs = append(r.Needs, named(need))
	}
	return r
}

func required(names ...string) []manifests.Requirement {
	var list []manifests.Requirement
	for _, name := range names {
		list = append(list, manifests.Requirement(named(name)))
	}
	return list
}

// known: releases that need nothing, and x v1.1.0, which needs y v1.1.0.
func known() catalog.Catalog {
	return catalog.Of([]api.Release{
		{Path: "x", Version: "v1.0.0", Manifest: "module x"}, {Path: "x", Version: "v1.1.0", Manifest: "module x\nrequire y v1.1.0"},
		{Path: "y", Version: "v1.0.0", Manifest: "module y"}, {Path: "y", Version: "v1.1.0", Manifest: "module y"},
	})
}

func kindOf(t *testing.T, err error) api.Kind {
	t.Helper()
	var fault *api.Fault
	if err == nil {
		return 0
	}
	if !errors.As(err, &fault) || fault == nil {
		t.Fatalf("an error that is no fault: %#v", err)
	}
	return fault.Kind
}

func TestSpread(t *testing.T) {
	// b and c need one another, and c needs d; e needs c.
	readings := []needs.Reading{reading("b v1.0.0", "c v1.0.0"), reading("c v1.0.0", "b v1.0.0", "d v1.0.0"), reading("d v1.0.0"), reading("e v1.0.0", "c v1.0.0")}
	g := graphOf(readings)
	for _, c := range []struct {
		from       string
		there      []int
		back       []int
		marked     []int
		overMarked []int
	}{
		{"b v1.0.0", []int{7, 7, 7, 0}, []int{7, 7, 0, 7}, []int{0, 1, 0, 0}, []int{7, 1, 0, 0}},
		{"d v1.0.0", []int{0, 0, 7, 0}, []int{7, 7, 7, 7}, []int{0, 0, 2, 0}, []int{0, 0, 2, 0}},
		{"e v1.0.0", []int{7, 7, 7, 7}, []int{0, 0, 0, 7}, []int{3, 0, 0, 0}, []int{3, 7, 7, 7}},
		{"z v1.0.0", []int{0, 0, 0, 0}, []int{0, 0, 0, 0}, []int{0, 4, 0, 0}, []int{0, 4, 0, 0}},
	} {
		marks := make([]int, len(readings))
		if g.spread(named(c.from), 7, marks); !slices.Equal(marks, c.there) {
			t.Errorf("P10: from %s: %v, want %v", c.from, marks, c.there)
		}
		marks = make([]int, len(readings))
		if g.reversed().spread(named(c.from), 7, marks); !slices.Equal(marks, c.back) {
			t.Errorf("P9: back from %s: %v, want %v", c.from, marks, c.back)
		}
		if g.spread(named(c.from), 7, c.marked); !slices.Equal(c.marked, c.overMarked) {
			t.Errorf("P10: from %s, over marks: %v, want %v", c.from, c.marked, c.overMarked)
		}
	}
}

func TestLeading(t *testing.T) {
	readings := []needs.Reading{reading("b v1.0.0", "c v1.0.0"), reading("c v1.0.0", "d v1.0.0"), reading("c v1.1.0"), reading("d v1.0.0"), reading("e v1.0.0", "c v1.1.0")}
	got := leading(readings, func(r needs.Reading) bool { return r.Module.Path == "d" })
	for _, name := range []string{"b v1.0.0", "c v1.0.0", "d v1.0.0"} {
		if got[named(name)] == 0 {
			t.Errorf("P9: %s does not lead to d", name)
		}
	}
	if len(got) != 3 {
		t.Errorf("P9: those that lead to d are %v", got)
	}
	if got := leading(readings, func(needs.Reading) bool { return false }); len(got) != 0 {
		t.Errorf("P9: those that lead to nothing are %v", got)
	}
}

func TestLesser(t *testing.T) {
	got := lesser(required("y v1.0.5", "z v1.0.0", "x v1.1.0"), known(), "w")
	if !slices.Equal(got, required("x v1.0.0", "x v1.1.0", "y v1.0.0")) {
		t.Errorf("P9: the lesser ones are %v", got)
	}
	if got := lesser(required("y v1.1.0", "x v1.0.0"), known(), "y"); !slices.Equal(got, required("x v1.0.0")) {
		t.Errorf("P9: the lesser ones but y are %v", got)
	}
	if got := lesser(nil, known(), "y"); len(got) != 0 {
		t.Errorf("P9: the lesser ones of nothing are %v", got)
	}
}

// TestRequirementsStay: the root's own list is not written into, and what is answered beside an error is empty.
func TestRequirementsStay(t *testing.T) {
	whole := required("y v1.1.0", "x v1.1.0", "a v1.0.0", "w v1.0.0")
	root := manifests.Parts{Module: manifests.Module{Path: "a"}, Requirements: whole[:3]}
	before := slices.Clone(whole)
	for _, c := range []struct {
		why  string
		call func(target api.Module) ([]manifests.Requirement, error)
		name string
		want []manifests.Requirement
		kind api.Kind
	}{
		{"raised", func(m api.Module) ([]manifests.Requirement, error) { return Raised(root, known(), m) }, "x v1.0.0", required("y v1.1.0", "a v1.0.0", "x v1.1.0"), 0},
		{"raised", func(m api.Module) ([]manifests.Requirement, error) { return Raised(root, known(), m) }, "z v1.0.0", nil, api.Missing},
		{"lowered", func(m api.Module) ([]manifests.Requirement, error) { return Lowered(root, known(), m) }, "y v1.0.0", required("x v1.0.0", "y v1.0.0"), 0},
		{"lowered", func(m api.Module) ([]manifests.Requirement, error) { return Lowered(root, known(), m) }, "y v1", nil, api.Version},
		{"thinned", func(api.Module) ([]manifests.Requirement, error) { return Thinned(root, known()) }, "", required("x v1.1.0"), 0},
		{"thinned", func(api.Module) ([]manifests.Requirement, error) { return Thinned(root, catalog.Of(nil)) }, "", nil, api.Missing},
	} {
		got, err := c.call(named(c.name))
		if !slices.Equal(got, c.want) || kindOf(t, err) != c.kind {
			t.Errorf("P8: %s to %q: %v, %v, want %v", c.why, c.name, got, err, c.want)
		}
		if !slices.Equal(whole, before) {
			t.Fatalf("P2: %s to %q wrote into the root's requirements: %v", c.why, c.name, whole)
		}
	}
}
