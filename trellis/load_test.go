package trellis_test

import (
	"fmt"
	"slices"
	"strings"
	"testing"

	"trellis/api"
	"trellis/trellis"
)

// release: of "b v1.0.0" and its requirements.
func release(name string, requires ...string) api.Release {
	path, version, _ := strings.Cut(name, " ")
	manifest := "module " + path + "\n"
	for _, r := range requires {
		manifest += "require " + r + "\n"
	}
	return api.Release{Path: path, Version: version, Manifest: manifest}
}

// listed: a list as text.
func listed(list []api.Module) string {
	var all []string
	for _, m := range list {
		all = append(all, m.Path+" "+m.Version)
	}
	return strings.Join(all, ", ")
}

// sumLines: the lines of sums for these releases.
func sumLines(releases ...api.Release) string {
	var lines strings.Builder
	for _, r := range releases {
		fmt.Fprintf(&lines, "%s %s %s\n", r.Path, r.Version, trellis.Digest(r))
	}
	return lines.String()
}

var (
	b1  = release("b v1.0.0", "d v1.1.0")
	b2  = release("b v2.0.0", "d v1.10.0")
	c1  = release("c v1.0.0", "d v1.2.0")
	c2  = release("c v2.0.0", "b v2.0.0", "e v1.0.0")
	d1  = release("d v1.1.0")
	d2  = release("d v1.2.0")
	d9  = release("d v1.9.0", "d v1.10.0")
	d10 = release("d v1.10.0", "d v1.9.0")
	e1  = release("e v1.0.0", "a v9.0.0", "c v2.0.0")
	f1  = release("f v1.0.0-rc", "f v1.0.0-alpha")
	f0  = release("f v1.0.0-alpha")
	g1  = api.Release{Path: "g", Version: "v1.0.0", Manifest: "module g\nrequire d v1.1.0\nexclude d v1.1.0\nreplace d => e v1.0.0\n", Files: []api.File{{Name: "z.tl", Data: "z"}, {Name: "a.tl", Data: "a"}}}
)

var known = []api.Release{b1, b2, c1, c2, d1, d2, d9, d10, e1, f1, f0, g1}

func TestLoadTakes(t *testing.T) {
	for _, c := range []struct{ why, root, want string }{
		{"nothing", "", ""},
		{"one", "require d v1.1.0", "d v1.1.0"},
		{"the greatest of those that are needed, not of those that there are", "require b v1.0.0\nrequire c v1.0.0", "b v1.0.0, c v1.0.0, d v1.2.0"},
		{"greater ones further down, and versions in their order", "require c v2.0.0\nrequire b v1.0.0", "b v2.0.0, c v2.0.0, d v1.10.0, e v1.0.0"},
		{"a ring of modules", "require e v1.0.0", "b v2.0.0, c v2.0.0, d v1.10.0, e v1.0.0"},
		{"a ring of versions of one module", "require d v1.9.0", "d v1.10.0"},
		{"marks", "require f v1.0.0-rc", "f v1.0.0-rc"},
		{"the root's own module", "require a v1.0.0\nrequire d v1.1.0", "d v1.1.0"},
		{"in any order", "require (\nd v1.1.0\nc v1.0.0\nb v1.0.0\n)", "b v1.0.0, c v1.0.0, d v1.2.0"},
		{"an exclusion", "require b v1.0.0\nexclude d v1.1.0", "b v1.0.0"},
		{"an exclusion of what the root requires", "require b v1.0.0\nrequire d v1.1.0\nexclude b v1.0.0", "d v1.1.0"},
		{"an exclusion of another version", "require b v1.0.0\nexclude d v1.2.0\nexclude b v2.0.0", "b v1.0.0, d v1.1.0"},
		{"an exclusion of the greatest", "require b v1.0.0\nrequire c v1.0.0\nexclude d v1.2.0", "b v1.0.0, c v1.0.0, d v1.1.0"},
		{"an exclusion of what can't be read", "require b v9.0.0\nexclude b v9.0.0", ""},
		{"a replacement of all versions", "require b v1.0.0\nreplace b => c v1.0.0", "b v1.0.0, d v1.2.0"},
		{"a replacement of a version goes ahead", "require b v1.0.0\nreplace b => c v2.0.0\nreplace b v1.0.0 => c v1.0.0", "b v1.0.0, d v1.2.0"},
		{"a replacement of another version", "require b v1.0.0\nreplace b v2.0.0 => c v2.0.0", "b v1.0.0, d v1.1.0"},
		{"of a version, and of all others", "require c v2.0.0\nreplace b v1.0.0 => z v1.0.0\nreplace b => d v1.1.0", "b v2.0.0, c v2.0.0, e v1.0.0"},
		{"by another version of itself", "require b v1.0.0\nreplace b v1.0.0 => b v2.0.0", "b v1.0.0, d v1.10.0"},
		{"by itself", "require b v1.0.0\nreplace b => b v1.0.0", "b v1.0.0, d v1.1.0"},
		{"further down", "require b v1.0.0\nreplace d v1.1.0 => e v1.0.0\nexclude c v2.0.0", "b v1.0.0, d v1.1.0"},
		{"of what there is not", "require z v7.0.0\nreplace z => b v1.0.0", "d v1.1.0, z v7.0.0"},
		{"what replaces is not replaced", "require b v1.0.0\nreplace b => c v1.0.0\nreplace c => e v1.0.0", "b v1.0.0, d v1.2.0"},
		{"what replaces may be excluded", "require b v1.0.0\nreplace b => c v1.0.0\nexclude c v1.0.0", "b v1.0.0, d v1.2.0"},
		{"what is replaced may be excluded", "require b v1.0.0\nreplace b => c v1.0.0\nexclude b v1.0.0", ""},
		{"by the root's own module", "require b v1.0.0\nreplace b => a v1.0.0", "b v1.0.0, f v1.0.0-alpha"},
		{"only the root's exclusions and replacements count", "require g v1.0.0", "d v1.1.0, g v1.0.0"},
	} {
		registry := append(slices.Clone(known), release("a v1.0.0", "a v2.0.0", "f v1.0.0-alpha"))
		build, err := trellis.Load("module a\n"+c.root, registry, "")
		if got := listed(build.List); got != c.want || err != nil {
			t.Errorf("P6: %s: %q, %v, want %q", c.why, got, err, c.want)
		}
	}
}

func TestLoadTakesTheFirstOfSeveral(t *testing.T) {
	second := release("b v1.0.0", "z v1.0.0")
	second.Files = []api.File{{Name: "x", Data: "x"}}
	broken := api.Release{Path: "b", Version: "v1.0.0", Manifest: "nonsense"}
	for _, c := range []struct {
		registry []api.Release
		want     api.Build
		fault    api.Fault
	}{
		{[]api.Release{b1, second, broken, d1}, api.Build{List: []api.Module{{Path: "b", Version: "v1.0.0"}, {Path: "d", Version: "v1.1.0"}}, Sums: sumLines(b1, d1)}, api.Fault{}},
		{[]api.Release{second, b1, broken, d1}, api.Build{}, api.Fault{Kind: api.Missing, Path: "z", Version: "v1.0.0"}},
		{[]api.Release{broken, second, b1, d1}, api.Build{}, api.Fault{Kind: api.Broken, Path: "b", Version: "v1.0.0"}},
	} {
		build, err := trellis.Load("module a\nrequire b v1.0.0", c.registry, "")
		if !slices.Equal(build.List, c.want.List) || build.Sums != c.want.Sums || faultOf(t, err) != c.fault {
			t.Errorf("P6: %+v, %+v, want %+v, %+v", build, faultOf(t, err), c.want, c.fault)
		}
	}
}

func TestLoadFails(t *testing.T) {
	registry := append(slices.Clone(known),
		api.Release{Path: "k", Version: "v1.0.0", Manifest: "module other\nrequire aa v1.0.0"},
		api.Release{Path: "k", Version: "v1.1.0", Manifest: "module k\nrequire aa v1.0.0\nrequire"},
		api.Release{Path: "k", Version: "v1.2.0", Manifest: ""},
		api.Release{Path: "k", Version: "v1.3.0", Manifest: "module k\nrequire b v1.0.0\nrequire b v1.0.0"},
		api.Release{Path: "k", Version: "v1.4.0", Manifest: "module k\nreplace b => C v1.0.0"},
		api.Release{Path: "l", Version: "v1.0.0", Manifest: "module b"},
		api.Release{Path: "M", Version: "v1.0.0", Manifest: "module M"},
		api.Release{Path: "n", Version: "v1", Manifest: "module n"},
		release("o v1.0.0", "k v1.0.0", "x v1.9.0", "x v1.10.0", "b v1.0.0"), // x twice: broken itself
		release("p v1.0.0", "k v1.0.0", "x v1.10.0", "q v1.0.0"),
		release("q v1.0.0", "x v1.9.0", "x/y v1.0.0", "w v1.0.0"),
	)
	missing := func(path, version string) api.Fault {
		return api.Fault{Kind: api.Missing, Path: path, Version: version}
	}
	broken := func(path, version string) api.Fault {
		return api.Fault{Kind: api.Broken, Path: path, Version: version}
	}
	for _, c := range []struct {
		root string
		want api.Fault
	}{
		{"require z v1.0.0", missing("z", "v1.0.0")},
		{"require b v1.0.1", missing("b", "v1.0.1")},
		{"require k v1.0.0", broken("k", "v1.0.0")}, {"require k v1.1.0", broken("k", "v1.1.0")}, {"require k v1.2.0", broken("k", "v1.2.0")}, {"require k v1.3.0", broken("k", "v1.3.0")}, {"require k v1.4.0", broken("k", "v1.4.0")},
		{"require o v1.0.0", broken("o", "v1.0.0")},
		// The least one, by path, then version, wherever it is needed, and whichever way it fails.
		{"require z v1.0.0\nrequire y v1.0.0", missing("y", "v1.0.0")},
		{"require p v1.0.0", broken("k", "v1.0.0")},
		{"require p v1.0.0\nexclude k v1.0.0", missing("w", "v1.0.0")},
		{"require p v1.0.0\nexclude k v1.0.0\nexclude w v1.0.0", missing("x", "v1.9.0")},
		{"require p v1.0.0\nexclude k v1.0.0\nexclude w v1.0.0\nexclude x v1.9.0", missing("x", "v1.10.0")},
		{"require k v1.1.0\nrequire a-a v1.0.0", missing("a-a", "v1.0.0")},
		// As it is needed, not as it is replaced.
		{"require b v1.0.0\nreplace b => z v1.0.0", missing("b", "v1.0.0")},
		{"require b v1.0.0\nreplace b v1.0.0 => k v1.0.0", broken("b", "v1.0.0")},
		{"require b v1.0.0\nrequire c v1.0.0\nreplace b => z v1.0.0\nreplace c => aa v1.0.0", missing("b", "v1.0.0")},
		// The manifest's module must be the path of what was read, not of what is needed.
		{"require b v1.0.0\nreplace b => l v1.0.0", broken("b", "v1.0.0")},
		{"require other v1.0.0\nreplace other => k v1.0.0", broken("other", "v1.0.0")},
		// One that is not taken fails all the same.
		{"require c v2.0.0\nrequire b v1.0.0\nexclude d v1.1.0\nreplace b v1.0.0 => z v1.0.0", missing("b", "v1.0.0")},
		{"require b v1", api.Fault{Kind: api.Version, Line: 2, Version: "v1"}},
		{"require z v1.0.0\nrequire z v1.0.0", api.Fault{Kind: api.Twice, Line: 3}},
	} {
		build, err := trellis.Load("module a\n"+c.root, registry, "")
		if faultOf(t, err) != c.want || len(build.List) != 0 || build.Sums != "" {
			t.Errorf("P6: %q: %+v, %+v, want %+v", c.root, build, faultOf(t, err), c.want)
		}
	}
	if _, err := trellis.Load("module a\nrequire b v1.0.0", nil, ""); faultOf(t, err) != missing("b", "v1.0.0") {
		t.Errorf("P6: in no registry: %+v", faultOf(t, err))
	}
}

const zeros = " 0000000000000000\n"

func TestLoadSums(t *testing.T) {
	// d v1.10.0 is read for three modules; releases of i and j are not read at all.
	root := "module a\nrequire (\nb v2.0.0\ng v1.0.0\ni v1.0.0\nj v1.0.0\n)\nreplace i => d v1.10.0\nreplace j => d v1.10.0\n"
	all := sumLines(b2, d1, d9, d10, g1)
	for _, c := range []struct{ sums, want string }{
		{"", all},
		{all, all},
		{sumLines(d9), all},
		{sumLines(b2, d10), all},
		// What was not read stays, whatever it is.
		{"a v1.0.0" + zeros + "i v1.0.0" + zeros + "j v1.0.0" + zeros, "a v1.0.0" + zeros + all + "i v1.0.0" + zeros + "j v1.0.0" + zeros},
		{"b v1.0.0" + zeros, "b v1.0.0" + zeros + all},
		{"d v1.2.0" + zeros + "d v1.11.0" + zeros, sumLines(b2, d1) + "d v1.2.0" + zeros + sumLines(d9, d10) + "d v1.11.0" + zeros + sumLines(g1)},
		{"d v1.1.0-rc" + zeros, sumLines(b2) + "d v1.1.0-rc" + zeros + sumLines(d1, d9, d10, g1)},
	} {
		build, err := trellis.Load(root, known, c.sums)
		if build.Sums != c.want || err != nil || listed(build.List) != "b v2.0.0, d v1.10.0, g v1.0.0, i v1.0.0, j v1.0.0" {
			t.Errorf("P6: with the sums %q: %+v, %+v, want %q", c.sums, build, faultOf(t, err), c.want)
		}
	}
	if build, err := trellis.Load("module a", known, "b v1.0.0"+zeros); err != nil || build.Sums != "b v1.0.0"+zeros || len(build.List) != 0 {
		t.Errorf("P6: sums where nothing is needed: %+v, %v", build, err)
	}
}

func TestLoadOtherSums(t *testing.T) {
	root := "module a\nrequire b v2.0.0\nrequire g v1.0.0\nrequire i v1.0.0\nreplace i => c v1.0.0"
	sum := func(path, version string) api.Fault {
		return api.Fault{Kind: api.Sum, Path: path, Version: version}
	}
	for _, c := range []struct {
		sums string
		want api.Fault
	}{
		{"d v1.10.0" + zeros, sum("d", "v1.10.0")},
		// One that was read, but is not taken.
		{"d v1.9.0" + zeros, sum("d", "v1.9.0")},
		// The least one, by path, then version.
		{"d v1.9.0" + zeros + "d v1.10.0" + zeros, sum("d", "v1.9.0")},
		{"b v1.0.0" + zeros + "b v2.0.0" + zeros + "d v1.1.0" + zeros, sum("b", "v2.0.0")},
		{sumLines(b2) + "d v1.1.0" + zeros + "g v1.0.0" + zeros, sum("d", "v1.1.0")},
		{"g v1.0.0" + zeros + "z v1.0.0" + zeros, sum("g", "v1.0.0")},
		// As it was read, not as it is needed.
		{"c v1.0.0" + zeros + "i v1.0.0" + zeros, sum("c", "v1.0.0")},
	} {
		build, err := trellis.Load(root, known, c.sums)
		if faultOf(t, err) != c.want || len(build.List) != 0 || build.Sums != "" {
			t.Errorf("P6: with the sums %q: %+v, %+v, want %+v", c.sums, build, faultOf(t, err), c.want)
		}
	}
	// The files of a release are in its sum.
	changed := g1
	changed.Files = []api.File{{Name: "a.tl", Data: "b"}}
	if _, err := trellis.Load("module a\nrequire g v1.0.0", []api.Release{changed, d1}, sumLines(g1)); faultOf(t, err) != sum("g", "v1.0.0") {
		t.Errorf("P6: a file that has changed: %+v", faultOf(t, err))
	}
}

func TestLoadNoSums(t *testing.T) {
	good := "b v1.0.0" + zeros
	for _, c := range []struct {
		sums string
		line int
	}{
		{"x", 1}, {"\n", 1}, {" ", 1}, {good + "\n", 2}, {good + "x\n", 2}, {good + good, 2}, {"\n" + good, 1},
		{strings.TrimSuffix(good, "\n"), 1}, {good + "c v1.0.0 0000000000000000", 2},
		{"b v1.0.0\n", 1}, {"b" + zeros, 1}, {"v1.0.0" + zeros, 1}, {"b v1.0.0 000000000000000\n", 1}, {"b v1.0.0 00000000000000000\n", 1}, {"b v1.0.0 000000000000000A\n", 1}, {"b v1.0.0 000000000000000g\n", 1},
		{"b  v1.0.0" + zeros, 1}, {"b v1.0.0 " + zeros, 1}, {" b v1.0.0" + zeros, 1}, {"b v1.0.0 0000000000000000 \n", 1}, {"b v1.0.0 0000000000000000\r\n", 1}, {"b\tv1.0.0" + zeros, 1},
		{"B v1.0.0" + zeros, 1}, {"b v1" + zeros, 1}, {good + "a v1.0.0" + zeros, 2}, {"b v1.10.0" + zeros + "b v1.9.0" + zeros, 2}, {good + "b v1.0.0-rc" + zeros, 2},
		// The first line counts.
		{good + "c v1.0.0" + zeros + "x\na v1.0.0" + zeros, 3}, {"x\n" + good + good, 1},
	} {
		build, err := trellis.Load("module a\nrequire b v1.0.0", known, c.sums)
		if want := (api.Fault{Kind: api.Syntax, Line: c.line}); faultOf(t, err) != want || len(build.List) != 0 || build.Sums != "" {
			t.Errorf("P6: with the sums %q: %+v, %+v, want %+v", c.sums, build, faultOf(t, err), want)
		}
	}
}

func TestLoadTellsTheErrorNamedFirst(t *testing.T) {
	for _, c := range []struct {
		root, sums string
		want       api.Fault
	}{
		{"module a\nrequire Z v1.0.0", "\nx", api.Fault{Kind: api.Path, Line: 2, Path: "Z"}},
		{"module a\nrequire z v1.0.0\nrequire b v1.0.0", "b v1.0.0" + zeros + "x", api.Fault{Kind: api.Syntax, Line: 2}},
		{"module a\nrequire z v1.0.0\nrequire b v1.0.0", "b v1.0.0" + zeros, api.Fault{Kind: api.Missing, Path: "z", Version: "v1.0.0"}},
		{"module a\nrequire b v1.0.0", "b v1.0.0" + zeros, api.Fault{Kind: api.Sum, Path: "b", Version: "v1.0.0"}},
	} {
		if build, err := trellis.Load(c.root, known, c.sums); faultOf(t, err) != c.want || len(build.List) != 0 || build.Sums != "" {
			t.Errorf("P1: Load(%q, .., %q) = %+v, %+v, want %+v", c.root, c.sums, build, faultOf(t, err), c.want)
		}
	}
}

// TestLoadIsNewMemory: who writes into an answer, and into its spare room, changes no later one; nothing that is handed in is written into.
func TestLoadIsNewMemory(t *testing.T) {
	whole := append(slices.Clone(known), release("z v1.0.0"), release("z v1.1.0"))
	before := fmt.Sprintf("%q", whole)
	root := "module a\nrequire c v2.0.0\nrequire g v1.0.0\n"
	first, err := trellis.Load(root, whole[:len(known)], "")
	if err != nil {
		t.Fatal(err)
	}
	want := listed(first.List)
	spare := first.List[:cap(first.List)]
	for i := range spare {
		spare[i] = api.Module{Path: "mine"}
	}
	if second, err := trellis.Load(root, whole[:len(known)], first.Sums); err != nil || listed(second.List) != want || second.Sums != first.Sums {
		t.Errorf("P2: after writing into an answer: %+v, %v", second, err)
	}
	if after := fmt.Sprintf("%q", whole); after != before {
		t.Errorf("P2: the registry was %s, and is %s", before, after)
	}
}

// TestLoadMany: a wide registry, a long chain, and one of versions of a single module.
func TestLoadMany(t *testing.T) {
	const many = 5000
	var wide, long, versions []api.Release
	root := "module a\n"
	for i := range many {
		wide = append(wide, release(fmt.Sprintf("p%d v1.0.0", i), fmt.Sprintf("z v1.%d.0", i)), release(fmt.Sprintf("z v1.%d.0", i)))
		long = append(long, release(fmt.Sprintf("p%d v1.0.0", i), fmt.Sprintf("p%d v1.0.0", (i+1)%many)))
		versions = append(versions, release(fmt.Sprintf("p0 v1.0.%d", i), fmt.Sprintf("p0 v1.0.%d", (i+1)%many)))
		root += fmt.Sprintf("require p%d v1.0.0\n", i)
	}
	for _, c := range []struct {
		why, root string
		registry  []api.Release
		list      int
		last      api.Module
	}{
		{"wide", root, wide, many + 1, api.Module{Path: "z", Version: fmt.Sprintf("v1.%d.0", many-1)}},
		{"long", "module a\nrequire p7 v1.0.0", long, many, api.Module{Path: "p999", Version: "v1.0.0"}},
		{"of one path", "module a\nrequire p0 v1.0.7", versions, 1, api.Module{Path: "p0", Version: fmt.Sprintf("v1.0.%d", many-1)}},
	} {
		build, err := trellis.Load(c.root, c.registry, "")
		if err != nil || len(build.List) != c.list || build.List[c.list-1] != c.last || strings.Count(build.Sums, "\n") != len(c.registry) {
			t.Fatalf("P6: %s: %d modules, %v", c.why, len(build.List), err)
		}
		if again, err := trellis.Load(c.root, c.registry, build.Sums); err != nil || again.Sums != build.Sums || !slices.Equal(again.List, build.List) {
			t.Errorf("P6: %s: again: %v", c.why, err)
		}
	}
}
