package trellis_test

import (
	"slices"
	"testing"

	"trellis/api"
	"trellis/trellis"
)

// target: a module in a version, now and then none.
func (d *dice) target() api.Module {
	m := d.module()
	if d.below(30) == 0 {
		m.Path = "B"
	}
	if d.below(30) == 0 {
		m.Version = "v1"
	}
	return m
}

// textWith: the one form of the world's root with these requirements.
func (w world) textWith(t *testing.T, requires []api.Module) string {
	t.Helper()
	w.requires = requires
	text, err := trellis.Print(w.root())
	if err != nil {
		t.Fatal(err)
	}
	return text
}

// but: requirements without that of one path.
func but(path string, requires []api.Module) []api.Module {
	return slices.DeleteFunc(slices.Clone(requires), func(m api.Module) bool { return m.Path == path })
}

func isAbove(m, target api.Module) bool {
	return m.Path == target.Path && byPathThenVersion(m, target) > 0
}

func (w world) noTarget(target api.Module) api.Fault {
	if target.Path == "B" || target.Path == rootPath {
		return api.Fault{Kind: api.Path, Path: target.Path}
	}
	if target.Version == "v1" {
		return api.Fault{Kind: api.Version, Version: target.Version}
	}
	if _, ok := w.releases[target]; !ok || slices.Contains(w.excludes, target) {
		return api.Fault{Kind: api.Missing, Path: target.Path, Version: target.Version}
	}
	return api.Fault{}
}

func (w world) upgraded(target api.Module) ([]api.Module, api.Fault) {
	if fault := w.noTarget(target); fault.Kind != 0 {
		return nil, fault
	}
	for _, m := range w.requires {
		if isAbove(m, target) && !slices.Contains(w.excludes, m) {
			return w.requires, api.Fault{}
		}
	}
	return append(but(target.Path, w.requires), target), api.Fault{}
}

// allows: from a module alone nothing fails, and nothing above the target is needed.
func (w world) allows(m, target api.Module) bool {
	return !slices.ContainsFunc(w.needed([]api.Module{m}), func(n api.Module) bool {
		p, ok := w.read(n)
		return !ok || p.broken || isAbove(n, target)
	})
}

func (w world) downgraded(target api.Module) ([]api.Module, api.Fault) {
	if fault := w.noTarget(target); fault.Kind != 0 {
		return nil, fault
	}
	if !w.allows(target, target) {
		return nil, api.Fault{Kind: api.Above, Path: target.Path, Version: target.Version}
	}
	lowered := []api.Module{target}
	for _, m := range but(target.Path, w.requires) {
		for k := slices.Index(someVersions, m.Version); k >= 0; k-- {
			lesser := api.Module{Path: m.Path, Version: someVersions[k]}
			if _, ok := w.releases[lesser]; ok && w.allows(lesser, target) {
				lowered = append(lowered, lesser)
				break
			}
		}
	}
	return lowered, api.Fault{}
}

func (w world) minimized() ([]api.Module, api.Fault) {
	build, fault := w.want(nil)
	if fault.Kind != 0 {
		return nil, fault
	}
	for _, path := range slices.Sorted(slices.Values(somePaths)) {
		less := w
		less.requires = but(path, w.requires)
		if other, fault := less.want(nil); fault.Kind == 0 && slices.Equal(other.List, build.List) {
			w = less
		}
	}
	return w.requires, api.Fault{}
}

// check: what a call answered is what the model has.
func (w world) check(t *testing.T, call string, target api.Module, got string, err error, want []api.Module, fault api.Fault) {
	t.Helper()
	text := ""
	if fault.Kind == 0 {
		text = w.textWith(t, want)
	}
	if got != text || faultOf(t, err) != fault {
		t.Fatalf("%s(%q, %q, %v) = %q, %+v, want %q, %+v", call, w.root(), w.registry, target, got, faultOf(t, err), text, fault)
	}
}

func TestChangesOfManyWorlds(t *testing.T) {
	d := dice(8)
	up, down, small := map[api.Kind]int{}, map[api.Kind]int{}, map[api.Kind]int{}
	for range 4000 {
		w := d.world()
		w.requires = d.modules(6)
		target := d.target()

		text, err := trellis.Upgrade(w.root(), w.registry, target.Path, target.Version)
		want, fault := w.upgraded(target)
		w.check(t, "P8: Upgrade", target, text, err, want, fault)
		w.checkUpgraded(t, text, target, fault)
		up[fault.Kind]++

		text, err = trellis.Downgrade(w.root(), w.registry, target.Path, target.Version)
		want, fault = w.downgraded(target)
		w.check(t, "P9: Downgrade", target, text, err, want, fault)
		w.checkDowngraded(t, text, target, fault)
		down[fault.Kind]++

		text, err = trellis.Minimize(w.root(), w.registry)
		want, fault = w.minimized()
		w.check(t, "P10: Minimize", target, text, err, want, fault)
		w.checkMinimized(t, text, fault)
		small[fault.Kind]++
	}
	if up[0] < 100 || up[api.Path] < 100 || up[api.Version] < 20 || up[api.Missing] < 100 || down[0] < 100 || down[api.Above] < 100 || small[0] < 100 || small[api.Missing] < 100 || small[api.Broken] < 100 {
		t.Errorf("the worlds are too much alike: %v, %v, %v", up, down, small)
	}
}

func (w world) checkUpgraded(t *testing.T, text string, target api.Module, fault api.Fault) {
	t.Helper()
	if fault.Kind != 0 {
		return
	}
	build, err := trellis.Load(text, w.registry, "")
	atLeast := func(m api.Module) bool { return m == target || isAbove(m, target) }
	if err == nil && !slices.ContainsFunc(build.List, atLeast) {
		t.Errorf("P12: %q, upgraded to %v, takes %s", w.root(), target, listed(build.List))
	}
}

func (w world) checkDowngraded(t *testing.T, text string, target api.Module, fault api.Fault) {
	t.Helper()
	if fault.Kind != 0 {
		return
	}
	build, err := trellis.Load(text, w.registry, "")
	if err != nil || !slices.Contains(build.List, target) {
		t.Errorf("P12: %q, downgraded to %v, takes %s, %v", w.root(), target, listed(build.List), err)
	}
}

func (w world) checkMinimized(t *testing.T, text string, fault api.Fault) {
	t.Helper()
	if fault.Kind != 0 {
		return
	}
	before, err := trellis.Load(w.root(), w.registry, "")
	after, errAfter := trellis.Load(text, w.registry, "")
	if err != nil || errAfter != nil || !slices.Equal(before.List, after.List) {
		t.Errorf("P12: %q takes %s, %v; minimized to %q %s, %v", w.root(), listed(before.List), err, text, listed(after.List), errAfter)
	}
	if again, err := trellis.Minimize(text, w.registry); again != text || err != nil {
		t.Errorf("P10: %q is minimized to %q, %v", text, again, err)
	}
}
