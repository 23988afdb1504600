package trellis_test

import (
	"fmt"
	"slices"
	"strings"
	"testing"

	"trellis/api"
	"trellis/trellis"
)

// market: versions of b to d that ask for more and more of d, and some that fail.
var market = []api.Release{
	release("b v1.0.0", "d v1.1.0"), release("b v1.9.0", "d v1.2.0"), release("b v1.10.0-rc", "d v1.2.0"), release("b v1.10.0", "d v1.3.0"),
	release("c v1.0.0", "b v1.0.0"), release("c v1.1.0", "b v1.9.0"), release("c v1.2.0", "b v1.0.0"), release("c v1.3.0", "b v1.10.0"),
	release("d v1.3.0"), release("d v1.2.0"), release("d v1.1.0"), release("d v1.0.0"), release("d v1.10.0"),
	release("e v0.9.0"), release("e v1.0.0", "z v1.0.0"), release("e v1.1.0", "k v1.0.0"),
	release("k v0.8.0"), {Path: "k", Version: "v0.9.0", Manifest: "module k\nnonsense"}, {Path: "k", Version: "v1.0.0", Manifest: "module other"},
	release("r v1.0.0", "s v1.0.0"), release("s v1.0.0", "r v1.1.0"), release("r v1.1.0", "s v1.0.0"), release("t v1.0.0", "r v1.0.0"),
	release("a v0.9.0"), release("a v1.0.0", "d v1.10.0", "z v1.0.0"), release("a v1.1.0"),
	{Path: "B", Version: "v1.0.0", Manifest: "module B"}, {Path: "d", Version: "v1", Manifest: "module d"}, {Path: "d", Version: "v1.4", Manifest: "module d"},
}

func textOf(lines ...string) string { return "module a\n" + strings.Join(append(lines, ""), "\n") }

func split(name string) (path, version string) {
	path, version, _ = strings.Cut(name, " ")
	return path, version
}

func TestUpgrade(t *testing.T) {
	for _, c := range []struct{ why, root, target, want string }{
		{"a path that is new", textOf(), "d v1.1.0", textOf("require d v1.1.0")},
		{"among others, in the one form", textOf("replace (", "x => y v1.0.0 // z", ")", "require (", "  e v1.0.0", "b v1.0.0", ")", "exclude d v1.2.0"), "d v1.1.0", textOf("require b v1.0.0", "require d v1.1.0", "require e v1.0.0", "exclude d v1.2.0", "replace x => y v1.0.0")},
		{"in a greater version", textOf("require d v1.1.0"), "d v1.2.0", textOf("require d v1.2.0")},
		{"greater by its number, not by its digits", textOf("require d v1.3.0"), "d v1.10.0", textOf("require d v1.10.0")},
		{"greater than one with marks", textOf("require b v1.10.0-rc"), "b v1.10.0", textOf("require b v1.10.0")},
		{"in the same version", textOf("require d v1.1.0"), "d v1.1.0", textOf("require d v1.1.0")},
		{"a greater one stays", textOf("require d v1.10.0"), "d v1.3.0", textOf("require d v1.10.0")},
		{"a greater one stays that the registry has not", textOf("require d v7.0.0"), "d v1.3.0", textOf("require d v7.0.0")},
		{"a greater one stays where lesser ones are excluded", textOf("require d v1.3.0", "exclude d v1.2.0"), "d v1.1.0", textOf("require d v1.3.0", "exclude d v1.2.0")},
		{"a greater one that the root excludes", textOf("require d v1.3.0", "exclude d v1.3.0"), "d v1.1.0", textOf("require d v1.1.0", "exclude d v1.3.0")},
		{"a lesser one that the root excludes", textOf("require d v1.1.0", "exclude d v1.1.0"), "d v1.3.0", textOf("require d v1.3.0", "exclude d v1.1.0")},
		{"the same version of another path is excluded", textOf("require d v1.3.0", "exclude c v1.3.0", "exclude c v1.1.0"), "d v1.1.0", textOf("require d v1.3.0", "exclude c v1.1.0", "exclude c v1.3.0")},
		{"what others ask for makes no difference", textOf("require b v1.10.0"), "d v1.0.0", textOf("require b v1.10.0", "require d v1.0.0")},
		{"nor what fails", textOf("require z v1.0.0"), "e v1.0.0", textOf("require e v1.0.0", "require z v1.0.0")},
		{"nor what is broken", textOf(), "k v0.9.0", textOf("require k v0.9.0")},
		{"nor a replacement by what is not there", textOf("replace d => z v1.0.0"), "d v1.1.0", textOf("require d v1.1.0", "replace d => z v1.0.0")},
		{"a requirement of its own module stays", textOf("require a v1.0.0"), "d v1.1.0", textOf("require a v1.0.0", "require d v1.1.0")},
	} {
		path, version := split(c.target)
		if got, err := trellis.Upgrade(c.root, market, path, version); got != c.want || err != nil {
			t.Errorf("P8: %s: Upgrade(%q, .., %s) = %q, %+v, want %q", c.why, c.root, c.target, got, faultOf(t, err), c.want)
		}
	}
}

// TestNoTarget: what can be required neither by Upgrade nor by Downgrade, and which error is told first.
func TestNoTarget(t *testing.T) {
	for _, c := range []struct {
		root, path, version string
		want                api.Fault
	}{
		{textOf("require b v1.0.0 x"), "B", "v1", api.Fault{Kind: api.Syntax, Line: 2}},
		{"", "B", "v1", api.Fault{Kind: api.Syntax, Line: 1}},
		{textOf("", "require z Z"), "B", "v1", api.Fault{Kind: api.Version, Line: 3, Version: "Z"}},
		{textOf(), "B", "v1", api.Fault{Kind: api.Path, Path: "B"}},
		{textOf(), "B", "v1.0.0", api.Fault{Kind: api.Path, Path: "B"}},
		{textOf(), "", "", api.Fault{Kind: api.Path}},
		{textOf(), strings.Repeat("d", api.MaxPath+1), "v1.0.0", api.Fault{Kind: api.Path, Path: strings.Repeat("d", api.MaxPath+1)}},
		{textOf(), "a", "v1.0.0", api.Fault{Kind: api.Path, Path: "a"}},
		{textOf(), "a", "v1", api.Fault{Kind: api.Path, Path: "a"}},
		{textOf("require a v1.0.0", "exclude a v1.0.0"), "a", "v1.0.0", api.Fault{Kind: api.Path, Path: "a"}},
		{textOf(), "d", "v1", api.Fault{Kind: api.Version, Version: "v1"}},
		{textOf(), "d", "v1.4", api.Fault{Kind: api.Version, Version: "v1.4"}},
		{textOf(), "d", "", api.Fault{Kind: api.Version}},
		{textOf(), "z", "v1.0.0+x", api.Fault{Kind: api.Version, Version: "v1.0.0+x"}},
		{textOf(), "z", "v1.0.0", api.Fault{Kind: api.Missing, Path: "z", Version: "v1.0.0"}},
		{textOf("require d v1.4.0"), "d", "v1.4.0", api.Fault{Kind: api.Missing, Path: "d", Version: "v1.4.0"}},
		{textOf("replace d v1.4.0 => d v1.1.0"), "d", "v1.4.0", api.Fault{Kind: api.Missing, Path: "d", Version: "v1.4.0"}},
		{textOf("exclude d v1.1.0"), "d", "v1.1.0", api.Fault{Kind: api.Missing, Path: "d", Version: "v1.1.0"}},
		{textOf("require d v1.3.0", "exclude d v1.1.0"), "d", "v1.1.0", api.Fault{Kind: api.Missing, Path: "d", Version: "v1.1.0"}},
		{textOf("exclude e v1.0.0"), "e", "v1.0.0", api.Fault{Kind: api.Missing, Path: "e", Version: "v1.0.0"}},
	} {
		if got, err := trellis.Upgrade(c.root, market, c.path, c.version); got != "" || faultOf(t, err) != c.want {
			t.Errorf("P8: Upgrade(%q, .., %q, %q) = %q, %+v, want %+v", c.root, c.path, c.version, got, faultOf(t, err), c.want)
		}
		if got, err := trellis.Downgrade(c.root, market, c.path, c.version); got != "" || faultOf(t, err) != c.want {
			t.Errorf("P9: Downgrade(%q, .., %q, %q) = %q, %+v, want %+v", c.root, c.path, c.version, got, faultOf(t, err), c.want)
		}
	}
}

func TestDowngrade(t *testing.T) {
	for _, c := range []struct{ why, root, target, want string }{
		{"the path itself", textOf("require d v1.3.0"), "d v1.1.0", textOf("require d v1.1.0")},
		{"a path that was not required", textOf(), "d v1.1.0", textOf("require d v1.1.0")},
		{"upwards", textOf("require d v1.0.0"), "d v1.10.0", textOf("require d v1.10.0")},
		{"a greater one that the root excludes", textOf("require d v1.3.0", "exclude d v1.3.0"), "d v1.1.0", textOf("require d v1.1.0", "exclude d v1.3.0")},
		{"one that asks for no more stays", textOf("require b v1.9.0"), "d v1.2.0", textOf("require b v1.9.0", "require d v1.2.0")},
		{"the greatest that asks for no more", textOf("require b v1.10.0"), "d v1.2.0", textOf("require b v1.10.0-rc", "require d v1.2.0")},
		{"one that is far less", textOf("require b v1.10.0"), "d v1.1.0", textOf("require b v1.0.0", "require d v1.1.0")},
		{"none can stay", textOf("require b v1.10.0", "require e v0.9.0"), "d v1.0.0", textOf("require d v1.0.0", "require e v0.9.0")},
		{"over several steps", textOf("require c v1.3.0"), "d v1.2.0", textOf("require c v1.2.0", "require d v1.2.0")},
		{"over several steps, past one that does not do", textOf("require c v1.1.0"), "d v1.1.0", textOf("require c v1.0.0", "require d v1.1.0")},
		{"none above the one that is required", textOf("require c v1.1.0"), "d v1.3.0", textOf("require c v1.1.0", "require d v1.3.0")},
		{"one that the registry has not", textOf("require c v1.1.7"), "d v1.3.0", textOf("require c v1.1.0", "require d v1.3.0")},
		{"above all of the registry", textOf("require c v9.0.0"), "d v1.3.0", textOf("require c v1.3.0", "require d v1.3.0")},
		{"below all of the registry", textOf("require c v0.9.0"), "d v1.3.0", textOf("require d v1.3.0")},
		{"a path that the registry has not", textOf("require y v1.0.0"), "d v1.3.0", textOf("require d v1.3.0")},
		{"each by itself", textOf("require b v1.10.0", "require c v1.3.0"), "d v1.2.0", textOf("require b v1.10.0-rc", "require c v1.2.0", "require d v1.2.0")},
		{"of which one fails", textOf("require e v1.0.0"), "d v1.0.0", textOf("require d v1.0.0", "require e v0.9.0")},
		{"of which one needs what is broken", textOf("require e v1.1.0"), "d v1.0.0", textOf("require d v1.0.0", "require e v0.9.0")},
		{"which are broken themselves", textOf("require k v1.0.0"), "d v1.0.0", textOf("require d v1.0.0", "require k v0.8.0")},
		{"a ring that does not end above", textOf("require t v1.0.0"), "r v1.1.0", textOf("require r v1.1.0", "require t v1.0.0")},
		{"rings that an exclusion cuts", textOf("require s v1.0.0", "require t v1.0.0", "exclude s v1.0.0"), "r v1.0.0", textOf("require r v1.0.0", "require s v1.0.0", "require t v1.0.0", "exclude s v1.0.0")},
		// What the root excludes.
		{"an excluded one is tried, and needs nothing", textOf("require b v1.10.0", "exclude b v1.10.0"), "d v1.0.0", textOf("require b v1.10.0", "require d v1.0.0", "exclude b v1.10.0")},
		{"a lesser one that is excluded", textOf("require b v1.10.0", "exclude b v1.9.0"), "d v1.1.0", textOf("require b v1.9.0", "require d v1.1.0", "exclude b v1.9.0")},
		{"an excluded one that fails", textOf("require k v1.0.0", "exclude k v1.0.0"), "d v1.1.0", textOf("require d v1.1.0", "require k v1.0.0", "exclude k v1.0.0")},
		{"an excluded one that the registry has not", textOf("require k v1.1.0", "exclude k v1.1.0"), "d v1.1.0", textOf("require d v1.1.0", "require k v0.8.0", "exclude k v1.1.0")},
		{"what lies above is excluded", textOf("require b v1.10.0", "exclude d v1.3.0"), "d v1.1.0", textOf("require b v1.10.0", "require d v1.1.0", "exclude d v1.3.0")},
		{"what leads there is excluded", textOf("require c v1.3.0", "exclude b v1.10.0"), "d v1.1.0", textOf("require c v1.3.0", "require d v1.1.0", "exclude b v1.10.0")},
		{"what fails is excluded", textOf("require e v1.0.0", "exclude z v1.0.0"), "d v1.1.0", textOf("require d v1.1.0", "require e v1.0.0", "exclude z v1.0.0")},
		// What the root replaces.
		{"a replacement that asks for less", textOf("require b v1.10.0", "replace b v1.10.0 => b v1.0.0"), "d v1.1.0", textOf("require b v1.10.0", "require d v1.1.0", "replace b v1.10.0 => b v1.0.0")},
		{"a replacement that asks for more", textOf("require b v1.9.0", "replace b v1.9.0 => b v1.10.0"), "d v1.2.0", textOf("require b v1.0.0", "require d v1.2.0", "replace b v1.9.0 => b v1.10.0")},
		{"a replacement by what is not there", textOf("require b v1.9.0", "replace b => y v1.0.0"), "d v1.2.0", textOf("require d v1.2.0", "replace b => y v1.0.0")},
		{"of one that the registry has not, though it is replaced", textOf("require y v1.0.0", "replace y => d v1.0.0"), "d v1.2.0", textOf("require d v1.2.0", "replace y => d v1.0.0")},
		{"what lies above is replaced, but lies above", textOf("require b v1.10.0", "replace d => d v1.0.0"), "d v1.1.0", textOf("require b v1.0.0", "require d v1.1.0", "replace d => d v1.0.0")},
		// The root's own module needs nothing as a need of the root.
		{"the root's own module", textOf("require a v1.0.0"), "d v1.1.0", textOf("require a v1.0.0", "require d v1.1.0")},
		{"the root's own module in a version that is not there", textOf("require a v1.0.5"), "d v1.1.0", textOf("require a v1.0.0", "require d v1.1.0")},
		{"in the one form", textOf("exclude (", "y v2.0.0", "y v1.0.0 // x", ")", "require d v1.3.0", "require b v1.0.0"), "d v1.1.0", textOf("require b v1.0.0", "require d v1.1.0", "exclude y v1.0.0", "exclude y v2.0.0")},
	} {
		path, version := split(c.target)
		if got, err := trellis.Downgrade(c.root, market, path, version); got != c.want || err != nil {
			t.Errorf("P9: %s: Downgrade(%q, .., %s) = %q, %+v, want %q", c.why, c.root, c.target, got, faultOf(t, err), c.want)
		}
	}
}

func TestDowngradeAbove(t *testing.T) {
	for _, c := range []struct{ why, root, target string }{
		{"a greater version of itself", textOf(), "r v1.0.0"},
		{"it needs what is not there", textOf(), "e v1.0.0"},
		{"it needs what is broken", textOf(), "e v1.1.0"},
		{"it is broken", textOf(), "k v0.9.0"},
		{"it is not what it says", textOf(), "k v1.0.0"},
		{"it is replaced by what is not there", textOf("replace d => z v1.0.0"), "d v1.1.0"},
		{"it is replaced by what needs more of it", textOf("replace d => b v1.9.0"), "d v1.1.0"},
		{"whatever else is required", textOf("require r v1.0.0", "require z v1.0.0"), "r v1.0.0"},
	} {
		path, version := split(c.target)
		want := api.Fault{Kind: api.Above, Path: path, Version: version}
		if got, err := trellis.Downgrade(c.root, market, path, version); got != "" || faultOf(t, err) != want {
			t.Errorf("P9: %s: Downgrade(%q, .., %s) = %q, %+v, want %+v", c.why, c.root, c.target, got, faultOf(t, err), want)
		}
	}
	// With the greater version excluded, or what leads there, it can be required.
	for _, root := range []string{textOf("exclude r v1.1.0"), textOf("exclude s v1.0.0"), textOf("replace s => d v1.0.0")} {
		if _, err := trellis.Downgrade(root, market, "r", "v1.0.0"); err != nil {
			t.Errorf("P9: Downgrade(%q, .., r v1.0.0): %+v", root, faultOf(t, err))
		}
	}
}

func TestMinimize(t *testing.T) {
	for _, c := range []struct{ why, root, want string }{
		{"nothing", textOf(), textOf()},
		{"one", textOf("require d v1.1.0"), textOf("require d v1.1.0")},
		{"what another one needs", textOf("require b v1.0.0", "require d v1.1.0"), textOf("require b v1.0.0")},
		{"what another one needs in a greater version", textOf("require b v1.9.0", "require d v1.1.0"), textOf("require b v1.9.0")},
		{"what another one needs in a lesser version", textOf("require b v1.9.0", "require d v1.3.0"), textOf("require b v1.9.0", "require d v1.3.0")},
		{"one behind the other", textOf("require b v1.0.0", "require c v1.0.0", "require d v1.1.0"), textOf("require c v1.0.0")},
		{"what is needed by one that leads into its ring", textOf("require r v1.0.0", "require t v1.0.0"), textOf("require t v1.0.0")},
		{"of a ring the last one by paths", textOf("require s v1.0.0", "require r v1.1.0"), textOf("require s v1.0.0")},
		{"of a ring what leads into it", textOf("require s v1.0.0", "require r v1.1.0", "require t v1.0.0"), textOf("require t v1.0.0")},
		{"one that is not taken", textOf("require b v1.0.0", "require c v1.3.0"), textOf("require c v1.3.0")},
		{"what the root excludes", textOf("require b v1.0.0", "require d v1.3.0", "exclude d v1.3.0"), textOf("require b v1.0.0", "exclude d v1.3.0")},
		{"what the root excludes, and is not there", textOf("require z v1.0.0", "exclude z v1.0.0"), textOf("exclude z v1.0.0")},
		{"what would be needed, if it were not excluded", textOf("require b v1.9.0", "require d v1.1.0", "exclude d v1.2.0"), textOf("require b v1.9.0", "require d v1.1.0", "exclude d v1.2.0")},
		{"the root's own module", textOf("require a v1.0.0", "require d v1.1.0"), textOf("require d v1.1.0")},
		{"what a replacement needs", textOf("require d v1.1.0", "require e v1.0.0", "replace e => b v1.0.0"), textOf("require e v1.0.0", "replace e => b v1.0.0")},
		{"what a replacement does not need", textOf("require b v1.0.0", "require d v1.1.0", "replace b => e v0.9.0"), textOf("require b v1.0.0", "require d v1.1.0", "replace b => e v0.9.0")},
		{"in the one form", textOf("exclude (", "y v2.0.0", "y v1.0.0 // x", ")", "require e v0.9.0", "require b v1.0.0"), textOf("require b v1.0.0", "require e v0.9.0", "exclude y v1.0.0", "exclude y v2.0.0")},
	} {
		if got, err := trellis.Minimize(c.root, market); got != c.want || err != nil {
			t.Errorf("P10: %s: Minimize(%q) = %q, %+v, want %q", c.why, c.root, got, faultOf(t, err), c.want)
		}
	}
}

// TestMinimizeGoesByRisingPaths: of two that each could be left out the first goes, in the order of paths, not of lines or of what needs what.
func TestMinimizeGoesByRisingPaths(t *testing.T) {
	registry := []api.Release{
		release("m-n v1.0.0", "m/n v1.0.0"), release("m/n v1.0.0", "m-n v1.0.0"),
		// Each of these two takes x to v1.2.0: p in a lesser version that q needs anyway in a greater one.
		release("p v1.0.0", "x v1.2.0"), release("p v1.1.0"), release("q v1.0.0", "p v1.1.0", "x v1.2.0"), release("q v1.1.0", "p v1.1.0"), release("s v1.0.0", "q v1.1.0"), release("x v1.2.0"),
	}
	for _, c := range []struct{ root, want string }{
		{textOf("require m-n v1.0.0", "require m/n v1.0.0"), textOf("require m/n v1.0.0")},
		{textOf("require m/n v1.0.0", "require m-n v1.0.0"), textOf("require m/n v1.0.0")},
		{textOf("require s v1.0.0", "require p v1.0.0", "require q v1.0.0"), textOf("require q v1.0.0", "require s v1.0.0")},
		{textOf("require s v1.0.0", "require p v1.0.0"), textOf("require p v1.0.0", "require s v1.0.0")},
		{textOf("require s v1.0.0", "require p v1.0.0", "require q v1.0.0", "require x v1.2.0"), textOf("require s v1.0.0", "require x v1.2.0")},
	} {
		if got, err := trellis.Minimize(c.root, registry); got != c.want || err != nil {
			t.Errorf("P10: Minimize(%q) = %q, %+v, want %q", c.root, got, faultOf(t, err), c.want)
		}
	}
}

func TestMinimizeFails(t *testing.T) {
	for _, c := range []struct {
		root string
		want api.Fault
	}{
		{"", api.Fault{Kind: api.Syntax, Line: 1}},
		{textOf("require z v1.0.0", "require B v1.0.0"), api.Fault{Kind: api.Path, Line: 3, Path: "B"}},
		{textOf("require d v1"), api.Fault{Kind: api.Version, Line: 2, Version: "v1"}},
		{textOf("require d v1.1.0", "require d v1.1.0"), api.Fault{Kind: api.Twice, Line: 3}},
		{textOf("require d v1.4.0"), api.Fault{Kind: api.Missing, Path: "d", Version: "v1.4.0"}},
		{textOf("require k v0.9.0"), api.Fault{Kind: api.Broken, Path: "k", Version: "v0.9.0"}},
		// The least one that fails, wherever it is needed.
		{textOf("require e v1.0.0", "require y v1.0.0"), api.Fault{Kind: api.Missing, Path: "y", Version: "v1.0.0"}},
		{textOf("require e v1.1.0", "require y v1.0.0"), api.Fault{Kind: api.Broken, Path: "k", Version: "v1.0.0"}},
		// One that could be left out fails all the same.
		{textOf("require b v1.9.0", "require d v1.0.5"), api.Fault{Kind: api.Missing, Path: "d", Version: "v1.0.5"}},
	} {
		if got, err := trellis.Minimize(c.root, market); got != "" || faultOf(t, err) != c.want {
			t.Errorf("P10: Minimize(%q) = %q, %+v, want %+v", c.root, got, faultOf(t, err), c.want)
		}
	}
}

// TestChangesTakeTheFirstOfSeveral: a release behind another one of its name does not count.
func TestChangesTakeTheFirstOfSeveral(t *testing.T) {
	registry := []api.Release{
		release("b v1.1.0", "d v1.2.0"), release("b v1.1.0"), release("b v1.0.0"), release("b v1.0.0", "d v1.2.0"),
		release("d v1.1.0"), {Path: "d", Version: "v1.1.0", Manifest: "nonsense"}, release("d v1.2.0"),
	}
	if got, err := trellis.Downgrade(textOf("require b v1.1.0"), registry, "d", "v1.1.0"); got != textOf("require b v1.0.0", "require d v1.1.0") || err != nil {
		t.Errorf("P9: %q, %+v", got, faultOf(t, err))
	}
	if got, err := trellis.Minimize(textOf("require b v1.1.0", "require d v1.2.0"), registry); got != textOf("require b v1.1.0") || err != nil {
		t.Errorf("P10: %q, %+v", got, faultOf(t, err))
	}
}

// TestChangesLeaveTheRegistry: neither the releases nor what stands behind them is written into, and what stands behind does not count.
func TestChangesLeaveTheRegistry(t *testing.T) {
	whole := append(slices.Clone(market), release("z v1.0.0"), release("d v1.4.0"))
	before := fmt.Sprintf("%q", whole)
	registry, root := whole[:len(market)], textOf("require b v1.10.0", "require c v1.3.0", "require e v1.0.0")
	if got, err := trellis.Upgrade(root, registry, "d", "v1.4.0"); got != "" || faultOf(t, err).Kind != api.Missing {
		t.Errorf("P2: Upgrade to what stands behind the list: %q, %v", got, err)
	}
	if got, err := trellis.Downgrade(root, registry, "d", "v1.2.0"); got != textOf("require b v1.10.0-rc", "require c v1.2.0", "require d v1.2.0", "require e v0.9.0") || err != nil {
		t.Errorf("P2: Downgrade: %q, %v", got, err)
	}
	if got, err := trellis.Minimize(root, registry); got != "" || faultOf(t, err).Kind != api.Missing {
		t.Errorf("P2: Minimize with what stands behind the list: %q, %v", got, err)
	}
	if after := fmt.Sprintf("%q", whole); after != before {
		t.Errorf("P2: the registry was %s, and is %s", before, after)
	}
}

// TestChangesOfMany: wide, long and ringed registries, which must not take long.
func TestChangesOfMany(t *testing.T) {
	const many = 3000
	var lines []string
	var chain, fan []api.Release
	for i := range many {
		name := fmt.Sprintf("p%04d", i)
		lines = append(lines, "require "+name+" v1.1.0")
		next := fmt.Sprintf("p%04d v1.1.0", (i+1)%many)
		chain = append(chain, release(name+" v1.0.0"), release(name+" v1.1.0", next, "z v1.0.0"))
		fan = append(fan, release(name+" v1.0.0", "z v1.0.0"), release(name+" v1.1.0", fmt.Sprintf("z v1.%d.0", i)))
		fan = append(fan, release(fmt.Sprintf("z v1.%d.0", i)))
	}
	root := textOf(lines...)
	chain = append(chain, release("z v1.0.0"), release("z v0.9.0"))
	if got, err := trellis.Minimize(root, chain); got != textOf(lines[many-1]) || err != nil {
		t.Errorf("P10: a long ring: %d lines, %v", strings.Count(got, "\n"), err)
	}
	if got, err := trellis.Downgrade(root, chain, "z", "v0.9.0"); strings.Count(got, " v1.0.0\n") != many || strings.Count(got, "\n") != many+2 || err != nil {
		t.Errorf("P9: a long ring: %d lines, %v", strings.Count(got, "\n"), err)
	}
	if got, err := trellis.Minimize(root, fan); got != root || err != nil {
		t.Errorf("P10: a wide registry: %d lines, %v", strings.Count(got, "\n"), err)
	}
	if got, err := trellis.Downgrade(root, fan, "z", "v1.7.0"); strings.Count(got, " v1.1.0\n") != 8 || strings.Count(got, " v1.0.0\n") != many-8 || err != nil {
		t.Errorf("P9: a wide registry: %d lines, %v", strings.Count(got, "\n"), err)
	}
	if got, err := trellis.Upgrade(root, fan, "z", "v1.7.0"); got != root+"require z v1.7.0\n" || err != nil {
		t.Errorf("P8: a wide registry: %d lines, %v", strings.Count(got, "\n"), err)
	}
}
