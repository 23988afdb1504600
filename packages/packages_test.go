package packages

import (
	"errors"
	"fmt"
	"runtime/debug"
	"slices"
	"strings"
	"testing"

	"trellis/api"
)

// module: of a path and sources such as "y/x.tl: a b", a name and what it imports; one that imports `!` can't be read.
func module(path string, sources ...string) Module {
	m := Module{Path: path}
	for _, text := range sources {
		name, imports, _ := strings.Cut(text, ":")
		data := ""
		for _, p := range strings.Fields(imports) {
			data += "import \"" + p + "\"\n"
		}
		m.Files = append(m.Files, api.File{Name: name, Data: data + "let x"})
	}
	return m
}

func faultIn(t *testing.T, err error) api.Fault {
	t.Helper()
	var fault *api.Fault
	if err == nil {
		return api.Fault{}
	}
	if !errors.As(err, &fault) || fault == nil {
		t.Fatalf("an error that is no fault: %#v", err)
	}
	return *fault
}

func namesOf(files []api.File) []string {
	var names []string
	for _, f := range files {
		names = append(names, f.Name)
	}
	return names
}

func TestPlacesOf(t *testing.T) {
	for path, want := range map[string][]place{
		"a":     {{"a", ""}},
		"a/b":   {{"a/b", ""}, {"a", "b"}},
		"a/b/c": {{"a/b/c", ""}, {"a", "b/c"}, {"a/b", "c"}},
	} {
		if got := placesOf(path); !slices.Equal(got, want) {
			t.Errorf("P11: the places of %q are %q", path, got)
		}
	}
}

func TestFind(t *testing.T) {
	l := libraryOf([]Module{
		module("a", "z.tl", "x.tl: b", "x.tl: c", "x.t", "/x.tl", ".tl", "y/x.tl", "y/z/x.tl", "y//x.tl", "Y/x.tl", "b/x.tl"),
		module("a/y/z", "q/x.tl"), module("a/b", "x.tl"), module("b"), module("c/d/e", "f/g/x.tl"),
	})
	for _, c := range []struct {
		path  string
		names []string
		fault api.Fault
	}{
		{"a", []string{".tl", "/x.tl", "x.tl", "z.tl"}, api.Fault{}},
		{"a/y", []string{"y/x.tl"}, api.Fault{}},
		{"a/y/z", []string{"y/z/x.tl"}, api.Fault{}}, {"a/y/z/q", []string{"q/x.tl"}, api.Fault{}}, {"c/d/e/f/g", []string{"f/g/x.tl"}, api.Fault{}},
		{"b", nil, api.Fault{Kind: api.Unknown, Path: "b"}}, {"c", nil, api.Fault{Kind: api.Unknown, Path: "c"}}, {"c/d/e", nil, api.Fault{Kind: api.Unknown, Path: "c/d/e"}}, {"c/d/e/f", nil, api.Fault{Kind: api.Unknown, Path: "c/d/e/f"}},
		{"a/", nil, api.Fault{Kind: api.Path, Path: "a/"}}, {"a/Y", nil, api.Fault{Kind: api.Path, Path: "a/Y"}}, {"", nil, api.Fault{Kind: api.Path}}, {"a/y/", nil, api.Fault{Kind: api.Path, Path: "a/y/"}},
		{"a/b", nil, api.Fault{Kind: api.Ambiguous, Path: "a/b"}},
	} {
		found, err := l.find(c.path)
		if !slices.Equal(namesOf(found), c.names) || faultIn(t, err) != c.fault {
			t.Errorf("P11: %q is found as %q, %+v, want %q, %+v", c.path, namesOf(found), faultIn(t, err), c.names, c.fault)
		}
	}
}

func TestImportsOfAPackage(t *testing.T) {
	l := libraryOf([]Module{module("a", "z.tl: d b", "x.tl: b c", "x.tl: q", "y/x.tl: q", "w/b.tl: b", "w/d.tl: !", "w/c.tl: !")})
	if got, err := l.imports("a"); !slices.Equal(got, []string{"b", "c", "d"}) || err != nil {
		t.Errorf("P11: a imports %q, %v", got, err)
	}
	for path, want := range map[string]api.Fault{
		"a/w": {Kind: api.Source, Path: "a/w", Version: "w/c.tl"}, "b": {Kind: api.Unknown, Path: "b"}, "B": {Kind: api.Path, Path: "B"},
	} {
		if got, err := l.imports(path); len(got) != 0 || faultIn(t, err) != want {
			t.Errorf("P11: %q imports %q, %+v, want %+v", path, got, faultIn(t, err), want)
		}
	}
}

func TestOrder(t *testing.T) {
	modules := []Module{
		module("a", "x.tl: b c", "y/x.tl: a d", "r/x.tl: a/r", "s/x.tl: b a/t", "t/x.tl: a/s"),
		module("b", "x.tl: d"), module("c", "x.tl: b d"), module("d", "x.tl"),
	}
	for _, c := range []struct {
		from, want string
		fault      api.Fault
	}{
		{"", "", api.Fault{}},
		{"d", "d", api.Fault{}},
		{"a", "d b c a", api.Fault{}},
		{"d a/y c c", "d b c a a/y", api.Fault{}},
		{"c d b", "d b c", api.Fault{}},
		{"a/r", "", api.Fault{Kind: api.Ring, Path: "a/r"}},
		{"a/s", "", api.Fault{Kind: api.Ring, Path: "a/s"}},
		{"a/t", "", api.Fault{Kind: api.Ring, Path: "a/t"}},
		{"d q a/t", "", api.Fault{Kind: api.Ring, Path: "a/t"}},
		{"d q", "", api.Fault{Kind: api.Unknown, Path: "q"}},
	} {
		whole := append(strings.Fields(c.from), "z", "y")
		before := slices.Clone(whole)
		got, err := Order(modules, whole[:len(whole)-2])
		if !slices.Equal(got, strings.Fields(c.want)) || faultIn(t, err) != c.fault {
			t.Errorf("P11: from %q: %q, %+v, want %q, %+v", c.from, got, faultIn(t, err), c.want, c.fault)
		}
		if !slices.Equal(whole, before) {
			t.Errorf("P2: the list %q is now %q", before, whole)
		}
	}
}

// TestOrderGoesDeep: a chain, then a ring, deeper than calls may be nested here. (Were they nested, the run would be cut off.)
func TestOrderGoesDeep(t *testing.T) {
	const deep = 100000
	defer debug.SetMaxStack(debug.SetMaxStack(1 << 20))
	m := Module{Path: "a"}
	for i := range deep {
		m.Files = append(m.Files, api.File{Name: fmt.Sprintf("%d/x.tl", i), Data: fmt.Sprintf("import \"a/%d\"", i+1)})
	}
	last := fmt.Sprintf("a/%d", deep)
	ring := append(slices.Clone(m.Files), api.File{Name: fmt.Sprintf("%d/x.tl", deep), Data: "import \"a/7\""})
	m.Files = append(m.Files, api.File{Name: fmt.Sprintf("%d/x.tl", deep)})
	if got, err := Order([]Module{m}, []string{"a/0"}); err != nil || len(got) != deep+1 || got[0] != last || got[deep] != "a/0" {
		t.Errorf("P1: a deep chain: %d packages, %v", len(got), err)
	}
	if got, err := Order([]Module{{"a", ring}}, []string{"a/0"}); len(got) != 0 || faultIn(t, err) != (api.Fault{Kind: api.Ring, Path: "a/7"}) {
		t.Errorf("P1: a long ring: %d packages, %+v", len(got), faultIn(t, err))
	}
}
