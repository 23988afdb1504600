package catalog

import (
	"slices"
	"testing"

	"trellis/api"
)

func TestFind(t *testing.T) {
	catalog := Of([]api.Release{
		{Path: "b", Version: "v1.0.0", Manifest: "first"},
		{Path: "b", Version: "v1.1.0", Manifest: "other version"},
		{Path: "b", Version: "v1.0.0", Manifest: "second"},
		{Path: "B", Version: "v1.0.0", Manifest: "no path"},
		{Path: "c", Version: "v1", Manifest: "no version"},
		{Path: "", Version: "", Manifest: "nothing"},
	})
	for _, c := range []struct{ path, version, want string }{
		{"b", "v1.0.0", "first"}, {"b", "v1.1.0", "other version"},
		{"b", "v1.2.0", ""}, {"c", "v1.0.0", ""},
		// Those that are no modules in versions are left out.
		{"B", "v1.0.0", ""}, {"c", "v1", ""}, {"", "", ""},
	} {
		got, found := catalog.Find(api.Module{Path: c.path, Version: c.version})
		if got.Manifest != c.want || found != (c.want != "") {
			t.Errorf("P6: Find(%q, %q) = %+v, %t", c.path, c.version, got, found)
		}
	}
	if _, found := Of(nil).Find(api.Module{Path: "b", Version: "v1.0.0"}); found {
		t.Error("P6: something was found in an empty registry")
	}
}

func TestNames(t *testing.T) {
	registry := []api.Release{
		{Path: "c", Version: "v1.0.0"}, {Path: "b", Version: "v1.10.0"}, {Path: "b", Version: "v1.9.0"}, {Path: "b-c", Version: "v0.1.0"}, {Path: "b/c", Version: "v0.1.0"},
		{Path: "b", Version: "v1.10.0"}, {Path: "b", Version: "v1.10.0-rc"}, {Path: "B", Version: "v1.0.0"}, {Path: "c", Version: "v1"},
	}
	want := []api.Module{{Path: "b", Version: "v1.9.0"}, {Path: "b", Version: "v1.10.0-rc"}, {Path: "b", Version: "v1.10.0"}, {Path: "b-c", Version: "v0.1.0"}, {Path: "b/c", Version: "v0.1.0"}, {Path: "c", Version: "v1.0.0"}}
	if got := Of(registry).Names(); !slices.Equal(got, want) {
		t.Errorf("P9: the names %v", got)
	}
	if got := Of(nil).Names(); len(got) != 0 {
		t.Errorf("P9: the names of nothing %v", got)
	}
}
