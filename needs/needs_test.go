package needs

import (
	"errors"
	"fmt"
	"runtime"
	"slices"
	"strings"
	"testing"
	"time"

	"trellis/api"
	"trellis/catalog"
	"trellis/manifests"
)

func partsOf(t *testing.T, text string) manifests.Parts {
	t.Helper()
	lines, err := manifests.Read(text)
	if err != nil {
		t.Fatal(err)
	}
	return manifests.Gather(lines)
}

// release: of "b v1.0.0" and its requirements.
func release(name string, requires ...string) api.Release {
	path, version, _ := strings.Cut(name, " ")
	manifest := "module " + path + "\n"
	for _, r := range requires {
		manifest += "require " + r + "\n"
	}
	return api.Release{Path: path, Version: version, Manifest: manifest}
}

// told: readings as text, with what was read for each.
func told(readings []Reading) string {
	var all []string
	for _, r := range readings {
		text := r.Module.Path + " " + r.Module.Version
		switch {
		case r.Fails != 0:
			text += fmt.Sprint(" fails ", int(r.Fails))
		case r.Release.Path != r.Module.Path || r.Release.Version != r.Module.Version:
			text += " as " + r.Release.Path + " " + r.Release.Version
		}
		all = append(all, text)
	}
	return strings.Join(all, ", ")
}

var registry = []api.Release{
	release("b v1.0.0", "d v1.9.0", "a v7.0.0"), release("b v2.0.0", "b v1.0.0", "d v1.10.0"),
	release("c v1.0.0", "d v1.9.0", "x v1.0.0", "k v1.0.0"),
	release("d v1.9.0"), release("d v1.10.0", "b v2.0.0"),
	{Path: "k", Version: "v1.0.0", Manifest: "module other\nrequire y v1.0.0"},
	{Path: "l", Version: "v1.0.0", Manifest: "module l\nrequire y v1.0.0\nrequire"},
}

func TestNeeded(t *testing.T) {
	for _, c := range []struct{ root, needed, taken string }{
		{"", "", ""},
		{"require d v1.9.0", "d v1.9.0", "d v1.9.0"},
		{"require b v2.0.0", "b v1.0.0, b v2.0.0, d v1.9.0, d v1.10.0", "b v2.0.0, d v1.10.0"},
		{"require a v1.0.0", "", ""},
		// What fails needs nothing.
		{"require c v1.0.0\nrequire l v1.0.0", "c v1.0.0, d v1.9.0, k v1.0.0 fails 6, l v1.0.0 fails 6, x v1.0.0 fails 5", "c v1.0.0, d v1.9.0, k v1.0.0 fails 6, l v1.0.0 fails 6, x v1.0.0 fails 5"},
		{"require b v2.0.0\nexclude b v1.0.0\nexclude d v1.9.0", "b v2.0.0, d v1.10.0", "b v2.0.0, d v1.10.0"},
		{"require b v2.0.0\nreplace b => d v1.9.0\nreplace b v2.0.0 => b v1.0.0\nreplace d => z v1.0.0", "b v2.0.0 as b v1.0.0, d v1.9.0 fails 5", "b v2.0.0 as b v1.0.0, d v1.9.0 fails 5"},
	} {
		parts := partsOf(t, "module a\n"+c.root)
		readings := NewReader(parts, catalog.Of(registry)).Needed(parts.Requirements)
		if got := told(readings); got != c.needed {
			t.Errorf("P6: %q needs %q, want %q", c.root, got, c.needed)
		}
		if got := told(Taken(readings)); got != c.taken {
			t.Errorf("P6: of %q are taken %q, want %q", c.root, got, c.taken)
		}
	}
}

func TestFailing(t *testing.T) {
	if err := Failing(nil); err != nil {
		t.Errorf("P6: nothing fails by %v", err)
	}
	if err := Failing([]Reading{{Module: api.Module{Path: "b", Version: "v1.0.0"}}}); err != nil {
		t.Errorf("P6: what does not fail fails by %v", err)
	}
	err := Failing([]Reading{
		{Module: api.Module{Path: "b", Version: "v1.0.0"}},
		{Module: api.Module{Path: "b", Version: "v1.1.0"}, Fails: api.Broken},
		{Module: api.Module{Path: "c", Version: "v1.0.0"}, Fails: api.Missing},
	})
	var fault *api.Fault
	if !errors.As(err, &fault) || *fault != (api.Fault{Kind: api.Broken, Path: "b", Version: "v1.1.0"}) {
		t.Errorf("P6: the first that fails: %+v", fault)
	}
}

// TestReadAtOnce: what comes is in order, however many goroutines send it, and none is left.
func TestReadAtOnce(t *testing.T) {
	var list []api.Module
	var registry []api.Release
	for i := range 500 {
		path := fmt.Sprintf("m%03d", 499-i)
		list = append(list, api.Module{Path: path, Version: "v1.0.0"})
		// Those that come first have the most to read.
		registry = append(registry, api.Release{Path: path, Version: "v1.0.0", Manifest: "module " + path + strings.Repeat("\n", 5*(500-i))})
	}
	before := slices.Clone(list)
	reader := NewReader(manifests.Parts{}, catalog.Of(registry))
	goroutines := runtime.NumGoroutine()
	for _, processors := range []int{1, 2, 8} {
		was := runtime.GOMAXPROCS(processors)
		readings := reader.readAtOnce(list)
		runtime.GOMAXPROCS(was)
		if len(readings) != len(list) || !slices.IsSortedFunc(readings, compareReadings) {
			t.Errorf("P6: with %d processors came %s", processors, told(readings))
		}
		for _, r := range readings {
			if r.Fails != 0 || r.Release.Path != r.Module.Path {
				t.Errorf("P6: for %v was read %q", r.Module, r.Release.Path)
			}
		}
	}
	if !slices.Equal(list, before) {
		t.Error("P2: the list was written into")
	}
	// One that has sent may still be on its last step.
	for tries := 0; runtime.NumGoroutine() > goroutines; tries++ {
		if tries == 5000 {
			t.Fatalf("P6: %d goroutines are left", runtime.NumGoroutine()-goroutines)
		}
		time.Sleep(time.Millisecond)
	}
}
