package trellis_test

import (
	"fmt"
	"slices"
	"strings"
	"testing"

	"trellis/api"
	"trellis/trellis"
)

// filesOf: of "y/x.tl: a b", a name and what it imports.
func filesOf(texts ...string) []api.File {
	var files []api.File
	for _, text := range texts {
		name, imports, _ := strings.Cut(text, ":")
		var data strings.Builder
		for _, path := range strings.Fields(imports) {
			fmt.Fprintf(&data, "import \"%s\"\n", path)
		}
		files = append(files, api.File{Name: name, Data: data.String() + "let x"})
	}
	return files
}

// with: a release and its files.
func with(r api.Release, texts ...string) api.Release {
	r.Files = filesOf(texts...)
	return r
}

var shelf = []api.Release{
	with(release("b v1.0.0", "d v1.0.0"), "x.tl: d b/c", "c/x.tl"),
	with(release("b v1.1.0"), "x.tl", "c/x.tl: b", "c/d/x.tl"),
	with(release("b/c v1.0.0"), "x.tl: b", "e/x.tl: b/c"),
	with(release("b/c v1.1.0"), "d/x.tl", "e/x.tl"),
	with(release("b-c v1.0.0"), "x.tl: b"),
	with(release("d v1.0.0", "d v1.1.0"), "x.tl: nowhere"),
	with(release("d v1.1.0"), "x.tl"),
	with(release("e v1.0.0", "b v1.1.0"), "x.tl: b a/y", "y/z/x.tl"),
	with(release("k v1.0.0"), "x.tl: k/y", "y/x.tl: k/z", "z/x.tl: k"),
	{Path: "l", Version: "v1.0.0", Manifest: "module other", Files: filesOf("x.tl")},
	with(release("a v1.0.0"), "w/x.tl"),
	with(release("b v1.0.0"), "x.tl: q"), // behind another one of its name
}

func TestPackages(t *testing.T) {
	for _, c := range []struct {
		why, root string
		files     []api.File
		from      string
		want      string
	}{
		{"nothing", "", filesOf("x.tl: q"), "", ""},
		{"one", "", filesOf("x.tl"), "a", "a"},
		{"one in a directory", "", filesOf("y/x.tl"), "a/y", "a/y"},
		{"one in a directory of a directory", "", filesOf("y/z/x.tl"), "a/y/z", "a/y/z"},
		{"a path twice", "", filesOf("x.tl", "y/x.tl"), "a/y a a/y a", "a a/y"},
		{"in no order", "", filesOf("x.tl", "y/x.tl", "y-z/x.tl", "y/z/x.tl"), "a/y/z a/y a a/y-z", "a a/y a/y-z a/y/z"},
		{"imports ahead", "", filesOf("x.tl: a/z a/y", "y/x.tl", "z/x.tl"), "a", "a/y a/z a"},
		{"imports of imports ahead", "", filesOf("x.tl: a/y", "y/x.tl: a/z", "z/x.tl: a/w", "w/x.tl"), "a", "a/w a/z a/y a"},
		{"a lesser one behind what it imports", "", filesOf("w/x.tl: a/z", "y/x.tl", "z/x.tl: a/y"), "a/w a/y", "a/y a/z a/w"},
		{"needed from several sides", "", filesOf("x.tl: a/w a/y a/z", "y/x.tl: a/z", "w/x.tl: a/z", "z/x.tl"), "a a/z a/y", "a/z a/w a/y a"},
		{"one that was told is not told again", "", filesOf("x.tl", "y/x.tl: a", "z/x.tl: a a/y"), "a a/y a/z", "a a/y a/z"},
		{"imports of all sources", "", filesOf("z.tl: a/y", "x.tl: a/z", "y.tl: a/y", "y/x.tl", "z/x.tl"), "a", "a/y a/z a"},
		{"rising over all sources, not source by source", "", filesOf("x.tl: a/z", "z.tl: a/w", "w/x.tl", "z/x.tl"), "a", "a/w a/z a"},
		// Names.
		{".tl alone", "", filesOf(".tl: a/y", "y/.tl"), "a", "a/y a"},
		{"a slash ahead", "", filesOf("/x.tl: a/y", "y/x.tl"), "a", "a/y a"},
		{"what is no source imports nothing", "", filesOf("x.t: q", "tl: q", "x.tl", "x.tl.x: q", "x.TL: q", "x.tl/y: q"), "a", "a"},
		{"a directory that looks like a source", "", filesOf("x.tl/y.tl"), "a/x.tl", "a/x.tl"},
		{"a source of a lower directory is none of this one", "", filesOf("x.tl", "y/x.tl: q", "z/y/x.tl: q"), "a", "a"},
		{"of one name the first", "", slices.Concat(filesOf("x.tl: a/y", "y/x.tl"), filesOf("x.tl: a/z", "y/x.tl: q")), "a", "a/y a"},
		{"of one name the first, though the second can't be read", "", filesOf("x.tl", "x.tl: A", "x.tl: B"), "a", "a"},
		{"any name", "", filesOf("\xff \n.tl: a/y", "y/Ü.tl"), "a", "a/y a"},
		// Modules.
		{"of a module that is required", "require b v1.1.0", filesOf("x.tl: b/c"), "a", "b b/c a"},
		{"of no package of the root's own", "require b v1.1.0", nil, "b/c", "b b/c"},
		{"of modules and directories", "require b v1.1.0", nil, "b/c/d b/c", "b b/c b/c/d"},
		{"of a module that a module needs, in the version that is taken", "require b v1.0.0", filesOf("x.tl: b"), "a", "b/c d b a"},
		{"the version that is taken, not the one that is required", "require b v1.0.0\nrequire e v1.0.0", filesOf("x.tl: b"), "a b/c", "b a b/c"},
		{"a module may import from the root's own", "require e v1.0.0", filesOf("x.tl: e", "y/x.tl"), "a", "a/y b e a"},
		{"of two modules that could have it the longer one does", "require b v1.1.0\nrequire b/c v1.0.0\nreplace b => d v1.1.0", nil, "b/c", "b b/c"},
		{"of two modules that could have it the shorter one does", "require b v1.1.0\nrequire b/c v1.1.0", nil, "b/c", "b b/c"},
		{"both have something below", "require b v1.1.0\nrequire b/c v1.1.0\nreplace b => d v1.1.0", nil, "b/c/d b/c/e", "b/c/d b/c/e"},
		{"of one whose path begins likewise, but not at a slash", "require b v1.1.0\nrequire b-c v1.0.0", nil, "b-c", "b b-c"},
		{"of the root's own module only its own files", "require a v1.0.0", filesOf("x.tl"), "a", "a"},
		// What is read in the place of another.
		{"another version", "require b v1.0.0\nreplace b => b v1.1.0", nil, "b b/c", "b b/c"},
		{"another module, under the path that is needed", "require m v1.0.0\nreplace m => d v1.1.0", filesOf("x.tl: m"), "a", "m a"},
		{"one module in two places", "require m v1.0.0\nrequire n v1.0.0\nreplace m => d v1.1.0\nreplace n => d v1.1.0", nil, "n m", "m n"},
		{"the root's own module elsewhere", "require m v1.0.0\nreplace m => a v1.0.0", nil, "m/w", "m/w"},
		{"of a version that is not taken", "require b v1.0.0\nrequire e v1.0.0\nreplace b v1.0.0 => d v1.0.0", nil, "b/c", "b b/c"},
	} {
		got, err := trellis.Packages("module a\n"+c.root, shelf, c.files, strings.Fields(c.from))
		if !slices.Equal(got, strings.Fields(c.want)) || err != nil {
			t.Errorf("P11: %s: %q, %+v, want %q", c.why, got, faultOf(t, err), c.want)
		}
	}
}

func TestPackagesFails(t *testing.T) {
	unknown := func(path string) api.Fault { return api.Fault{Kind: api.Unknown, Path: path} }
	ambiguous := func(path string) api.Fault { return api.Fault{Kind: api.Ambiguous, Path: path} }
	ring := func(path string) api.Fault { return api.Fault{Kind: api.Ring, Path: path} }
	source := func(path, name string) api.Fault { return api.Fault{Kind: api.Source, Path: path, Version: name} }
	noPath := func(text string) api.Fault { return api.Fault{Kind: api.Path, Path: text} }
	long := strings.Repeat("a", api.MaxPath+1)
	for _, c := range []struct {
		why, root string
		files     []api.File
		from      []string
		want      api.Fault
	}{
		{"great letters", "", filesOf("x.tl", "Y/x.tl"), []string{"a/Y"}, noPath("a/Y")},
		{"empty", "", filesOf("x.tl"), []string{""}, noPath("")},
		{"a slash behind", "", filesOf("x.tl"), []string{"a/"}, noPath("a/")},
		{"a slash behind a directory", "", filesOf("y//x.tl"), []string{"a/y/"}, noPath("a/y/")},
		{"two slashes", "", filesOf("y//x.tl", "/y/x.tl"), []string{"a//y"}, noPath("a//y")},
		{"too long", "", filesOf("x.tl"), []string{long}, noPath(long)},
		{"a directory that makes it too long", "", filesOf(long[2:] + "/x.tl"), []string{"a/" + long[2:]}, noPath("a/" + long[2:])},
		{"points", "", filesOf("./x.tl", "../x.tl"), []string{"a/."}, noPath("a/.")},

		{"nobody has it", "", nil, []string{"z"}, unknown("z")},
		{"nobody has what is imported", "", filesOf("x.tl: z"), []string{"a"}, unknown("z")},
		{"no files", "", nil, []string{"a"}, unknown("a")},
		{"no source at the top", "", filesOf("y/x.tl", "x.t"), []string{"a"}, unknown("a")},
		{"no source in the directory", "", filesOf("x.tl", "y/x.t", "yx.tl"), []string{"a/y"}, unknown("a/y")},
		{"only in a lower directory", "", filesOf("y/z/x.tl"), []string{"a/y"}, unknown("a/y")},
		{"only in a higher directory", "", filesOf("y/x.tl"), []string{"a/y/z"}, unknown("a/y/z")},
		{"a directory is no path of its own", "", filesOf("y/x.tl"), []string{"y"}, unknown("y")},
		{"a source is no package", "", filesOf("x.tl"), []string{"a/x.tl"}, unknown("a/x.tl")},
		{"a directory with a slash ahead", "", filesOf("/y/x.tl"), []string{"a/y"}, unknown("a/y")},
		{"a module that is not required", "", nil, []string{"b"}, unknown("b")},
		{"a version that is not taken", "require b v1.0.0\nrequire e v1.0.0\nreplace b v1.1.0 => d v1.1.0", nil, []string{"b/c"}, unknown("b/c")},
		{"as it was read, not as it is needed", "require m v1.0.0\nreplace m => d v1.1.0", nil, []string{"d"}, unknown("d")},
		{"what is excluded", "require b v1.1.0\nexclude b v1.1.0", nil, []string{"b"}, unknown("b")},
		{"the root's own module in the registry", "require a v1.0.0", filesOf("x.tl"), []string{"a/w"}, unknown("a/w")},
		{"a path that begins likewise, but not at a slash", "require b v1.1.0", nil, []string{"b-c"}, unknown("b-c")},
		{"a part of a module's path", "require b/c v1.0.0", nil, []string{"b"}, unknown("b")},

		{"two have it", "require b v1.1.0\nrequire b/c v1.0.0", nil, []string{"b/c"}, ambiguous("b/c")},
		{"two have it in a directory", "require b v1.1.0\nrequire b/c v1.1.0", filesOf("x.tl: b/c/d"), []string{"a"}, ambiguous("b/c/d")},
		{"the root's own and another", "require e v1.0.0\nrequire a/y v1.0.0\nreplace a/y => d v1.1.0", filesOf("y/x.tl"), []string{"a/y"}, ambiguous("a/y")},
		{"two have it, though the source of one can't be read", "require b v1.1.0\nrequire b/c v1.0.0\nreplace b => m v1.0.0\nreplace b/c => d v1.1.0", nil, []string{"b/c"}, ambiguous("b/c")},

		{"itself", "", filesOf("x.tl: a"), []string{"a"}, ring("a")},
		{"two of them", "", filesOf("x.tl: a/y", "y/x.tl: a"), []string{"a/y"}, ring("a/y")},
		{"in the order of texts", "", filesOf("x.tl: a/y", "y/x.tl: a"), []string{"a/y", "a"}, ring("a")},
		{"three of them", "require k v1.0.0", nil, []string{"k/z"}, ring("k/z")},
		{"what leads into it is none of it", "require k v1.0.0", filesOf("x.tl: k/y"), []string{"a"}, ring("k/y")},
		{"through another source", "", filesOf("x.tl", "z.tl: a/y", "y/x.tl", "y/z.tl: a"), []string{"a"}, ring("a")},

		{"a source that can't be read", "", filesOf("y/x.tl: A"), []string{"a/y"}, source("a/y", "y/x.tl")},
		{"the least of several", "", filesOf("z.tl: A", "y.tl: A", "x.tl", "c/a.tl: A"), []string{"a"}, source("a", "y.tl")},
		{"the least by its bytes", "", filesOf("b.tl: A", "a.tl: A", "B.tl: A"), []string{"a"}, source("a", "B.tl")},
		{"with a slash ahead it is less", "", filesOf("x.tl: A", "/x.tl: A"), []string{"a"}, source("a", "/x.tl")},
		{"the first of one name", "", filesOf("x.tl: A", "x.tl"), []string{"a"}, source("a", "x.tl")},
		{"of a module", "require m v1.0.0", filesOf("x.tl: m/y"), []string{"a"}, source("m/y", "y/x.tl")},
		{"in the place of another", "require n v1.0.0\nreplace n => m v1.0.0", nil, []string{"n/y"}, source("n/y", "y/x.tl")},
	} {
		registry := append(slices.Clone(shelf), with(release("m v1.0.0"), "y/x.tl: A", "c/x.tl: A"))
		got, err := trellis.Packages("module a\n"+c.root, registry, c.files, c.from)
		if len(got) != 0 || faultOf(t, err) != c.want {
			t.Errorf("P11: %s: %q, %+v, want %+v", c.why, got, faultOf(t, err), c.want)
		}
	}
}

// TestPackagesTellsTheFirstError: that of the root, of what is needed, then the first that is come to.
func TestPackagesTellsTheFirstError(t *testing.T) {
	for _, c := range []struct {
		why, root string
		files     []api.File
		from      string
		want      api.Fault
	}{
		{"of the root", "require z v1.0.0\nrequire", filesOf("x.tl: A"), "a B", api.Fault{Kind: api.Syntax, Line: 3}},
		{"a word of the root", "require z v1.0.0\nrequire Z v1.0.0", nil, "B", api.Fault{Kind: api.Path, Line: 3, Path: "Z"}},
		{"what is missing", "require z v1.0.0", filesOf("x.tl: A"), "a B", api.Fault{Kind: api.Missing, Path: "z", Version: "v1.0.0"}},
		{"what is missing, though no package is asked for", "require z v1.0.0", nil, "", api.Fault{Kind: api.Missing, Path: "z", Version: "v1.0.0"}},
		{"what is broken", "require z v1.0.0\nrequire l v1.0.0", nil, "B", api.Fault{Kind: api.Broken, Path: "l", Version: "v1.0.0"}},
		{"what is broken in the place of another", "require b v1.0.0\nreplace d v1.0.0 => l v1.0.0", nil, "B", api.Fault{Kind: api.Broken, Path: "d", Version: "v1.0.0"}},

		{"the least text", "", filesOf("x.tl: A"), "z a B", api.Fault{Kind: api.Path, Path: "B"}},
		{"the least text, with all that it imports", "", filesOf("x.tl: a/y", "y/x.tl: z"), "b a", api.Fault{Kind: api.Unknown, Path: "z"}},
		{"a text that is no path, but a greater one", "", filesOf("x.tl: z"), "a~ a/y a", api.Fault{Kind: api.Unknown, Path: "z"}},
		{"a source when its package is found, ahead of its imports", "", filesOf("x.tl: A", "a.tl: z a"), "a", api.Fault{Kind: api.Source, Path: "a", Version: "x.tl"}},
		{"a source only when its package is found", "", filesOf("x.tl: a/y a/z", "y/x.tl: q", "z/x.tl: A"), "a", api.Fault{Kind: api.Unknown, Path: "q"}},
		{"a source that is come to ahead of a ring", "", filesOf("x.tl: a/y a/z", "y/x.tl: A", "z/x.tl: a"), "a", api.Fault{Kind: api.Source, Path: "a/y", Version: "y/x.tl"}},
		{"a ring that is come to ahead of a source", "", filesOf("x.tl: a/z a/y", "y/x.tl: a", "z/x.tl: A"), "a", api.Fault{Kind: api.Ring, Path: "a"}},
		{"depth ahead of breadth", "", filesOf("x.tl: a/y b", "y/x.tl: a/z", "z/x.tl: c"), "a", api.Fault{Kind: api.Unknown, Path: "c"}},
		{"a ring at once, ahead of one further down", "", filesOf("x.tl: a/y", "y/x.tl: a/y/y a", "y/y/x.tl: a/z", "z/x.tl: a/y"), "a", api.Fault{Kind: api.Ring, Path: "a"}},
		{"the ring that is come to first", "", filesOf("x.tl: a/y", "y/x.tl: a/b b", "b/x.tl: a/z", "z/x.tl: a/y"), "a", api.Fault{Kind: api.Ring, Path: "a/y"}},
		{"two that have it ahead of what nobody has", "require b v1.1.0\nrequire b/c v1.0.0", filesOf("x.tl: c b/c"), "a", api.Fault{Kind: api.Ambiguous, Path: "b/c"}},
		{"what is not come to makes no difference", "require k v1.0.0", filesOf("x.tl", "y/x.tl: A", "z/x.tl: q"), "a k/q", api.Fault{Kind: api.Unknown, Path: "k/q"}},
	} {
		got, err := trellis.Packages("module a\n"+c.root, shelf, c.files, strings.Fields(c.from))
		if len(got) != 0 || faultOf(t, err) != c.want {
			t.Errorf("P11: %s: %q, %+v, want %+v", c.why, got, faultOf(t, err), c.want)
		}
	}
	if got, err := trellis.Packages("", shelf, nil, []string{"B"}); len(got) != 0 || faultOf(t, err) != (api.Fault{Kind: api.Syntax, Line: 1}) {
		t.Errorf("P11: of no root: %q, %+v", got, faultOf(t, err))
	}
}

func TestPackagesReadsHeads(t *testing.T) {
	for _, c := range []struct{ why, data, want string }{
		{"empty", "", "a"}, {"empty lines", "\n\n", "a"}, {"a comment", "// import \"q\"", "a"},
		{"no end of the line", "import \"a/y\"", "a/y a"}, {"ends with an import", "import \"a/y\"\n", "a/y a"},
		{"comments and empty lines between", "//\n\nimport \"a/z\"\n\n// x\nimport \"a/y\"\n\n//\nlet", "a/y a/z a"},
		{"the same twice", "import \"a/y\"\nimport \"a/y\"", "a/y a"},
		{"a line ends it", "import \"a/y\"\nlet\nimport \"q\"", "a/y a"}, {"a line ends it, whatever stands behind", "let\nimport", "a"},
		{"blanks end it", " \nimport \"q\"", "a"}, {"a blank ahead ends it", " import", "a"}, {"a TAB ahead ends it", "\timport \"q\"", "a"}, {"one slash ends it", "/\nimport \"q\"", "a"}, {"the byte 13 ends it", "\r\nimport \"q\"", "a"}, {"great letters end it", "IMPORT \"q\"\nimport", "a"},
		{"import alone", "import", ""}, {"a longer word", "imported = 1", ""}, {"a longer word and a quote", "imported\"", ""}, {"no blank", "import\"a/y\"", ""}, {"two blanks", "import  \"a/y\"", ""}, {"no quotes", "import a/y", ""}, {"one quote", "import \"", ""}, {"no quote behind", "import \"a/y", ""}, {"nothing in quotes", "import \"\"", ""}, {"no path", "import \"a/Y\"", ""}, {"something behind", "import \"a/y\" ", ""}, {"a comment behind", "import \"a/y\" // x", ""}, {"the byte 13 behind", "import \"a/y\"\r\n", ""}, {"behind a good one", "import \"a/y\"\nimport", ""}, {"behind comments", "// x\n\nimport x\nlet", ""},
	} {
		files := append(filesOf("y/x.tl", "z/x.tl"), api.File{Name: "x.tl", Data: c.data})
		want := api.Fault{}
		if c.want == "" {
			want = api.Fault{Kind: api.Source, Path: "a", Version: "x.tl"}
		}
		if got, err := trellis.Packages("module a", nil, files, []string{"a"}); !slices.Equal(got, strings.Fields(c.want)) || faultOf(t, err) != want {
			t.Errorf("P11: %s: %q, %+v, want %q, %+v", c.why, got, faultOf(t, err), c.want, want)
		}
	}
}

// TestPackagesIsNewMemory: who writes into an answer, and into its spare room, changes no later one; nothing that is handed in is written into, nor what stands behind it.
func TestPackagesIsNewMemory(t *testing.T) {
	root := "module a\nrequire b v1.1.0\nrequire b-c v1.0.0\n"
	registry := append(slices.Clone(shelf), release("z v1.0.0"), release("z v1.1.0"))
	for i := range registry {
		files := append(slices.Clone(registry[i].Files), filesOf("x.tl: z", "a.tl: z")...)
		slices.Reverse(files[:len(files)-2])
		registry[i].Files = files[:len(files)-2]
	}
	files := append(filesOf("z/x.tl", "y.tl: b-c", "x.tl: a/z b", "y.tl: q"), filesOf("x.tl: z", "a.tl: z")...)
	from := []string{"b-c", "a/z", "a", "b", "a", "z", "b/c"}
	whole := func() string {
		text := fmt.Sprintf("%q %q", files, from)
		for _, r := range registry {
			text += fmt.Sprintf("%q %q", r, r.Files[:len(r.Files)+2])
		}
		return text
	}
	before := whole()
	call := func() []string {
		list, err := trellis.Packages(root, registry[:len(shelf)], files[:4], from[:5])
		if want := []string{"a/z", "b", "b-c", "a"}; !slices.Equal(list, want) || err != nil {
			t.Errorf("P2: %q, %+v, want %q", list, faultOf(t, err), want)
		}
		return list
	}
	first := call()
	spare := first[:cap(first)]
	for i := range spare {
		spare[i] = "mine"
	}
	second := call()
	if spare[0] != "mine" || len(second) > 0 && &second[0] == &first[0] {
		t.Error("P2: two answers share memory")
	}
	if after := whole(); after != before {
		t.Errorf("P2: what was handed in was %s, and is %s", before, after)
	}
}

// TestPackagesOfMany: wide, deep and ladder-like imports, which must not take long.
func TestPackagesOfMany(t *testing.T) {
	const many = 20000
	var wide, deep, ladder []string
	from := []string{"a"}
	wide = append(wide, "x.tl:")
	for i := range many {
		wide[0] += fmt.Sprintf(" a/%d", i)
		wide = append(wide, fmt.Sprintf("%d/x.tl", i))
		deep = append(deep, fmt.Sprintf("%05d/x.tl: a/%05d", i, (i+1)%many))
		// Each of two leads to both of the next two: more ways than can be gone one by one.
		ladder = append(ladder, fmt.Sprintf("%05d/x.tl: a/%05d a/%05d", i, min(many, i+2-i%2), min(many, i+3-i%2)))
		from = append(from, fmt.Sprintf("a/%d", i))
	}
	ladder = append(ladder, fmt.Sprintf("%05d/x.tl", many))
	if got, err := trellis.Packages("module a", nil, filesOf(wide...), from); err != nil || len(got) != many+1 || got[many] != "a" {
		t.Errorf("P11: wide: %d packages, %v", len(got), err)
	}
	if got, err := trellis.Packages("module a", nil, filesOf(deep...), []string{"a/00007"}); len(got) != 0 || faultOf(t, err) != (api.Fault{Kind: api.Ring, Path: "a/00007"}) {
		t.Errorf("P11: a long ring: %d packages, %v", len(got), err)
	}
	deep[many-1] = fmt.Sprintf("%05d/x.tl", many-1)
	if got, err := trellis.Packages("module a", nil, filesOf(deep...), []string{"a/00007"}); err != nil || len(got) != many-7 || got[many-8] != "a/00007" {
		t.Errorf("P11: deep: %d packages, %v", len(got), err)
	}
	if got, err := trellis.Packages("module a", nil, filesOf(ladder...), []string{"a/00000"}); err != nil || len(got) != many || got[0] != fmt.Sprintf("a/%05d", many) {
		t.Errorf("P11: a ladder: %d packages, %v", len(got), err)
	}
}
