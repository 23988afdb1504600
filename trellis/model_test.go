package trellis_test

import (
	"fmt"
	"slices"
	"strings"
	"testing"

	"trellis/api"
	"trellis/trellis"
)

// world: a root and a registry as they are meant, beside the texts that say it.
type world struct {
	requires, excludes []api.Module
	replaces           map[api.Module]api.Module // an empty version: all
	releases           map[api.Module]planned
	registry           []api.Release
}

// planned: a release as it is meant.
type planned struct {
	requires []api.Module
	broken   bool
	release  api.Release
}

const rootPath = "a"

var (
	somePaths    = []string{"a", "b", "b/c", "b-c", "c", "d"}
	someVersions = []string{"v0.9.0", "v0.10.0-rc.9", "v0.10.0-rc.10", "v0.10.0"}
)

func (d *dice) module() api.Module {
	return api.Module{Path: somePaths[d.below(len(somePaths))], Version: someVersions[d.below(len(someVersions))]}
}

// modules: at most so many, of each path only one.
func (d *dice) modules(most int) []api.Module {
	var list []api.Module
	for range d.below(most + 1) {
		m := d.module()
		if !slices.ContainsFunc(list, func(other api.Module) bool { return other.Path == m.Path }) {
			list = append(list, m)
		}
	}
	return list
}

func (d *dice) world() world {
	w := world{requires: d.modules(3), replaces: map[api.Module]api.Module{}, releases: map[api.Module]planned{}}
	for range d.below(4) {
		if m := d.module(); !slices.Contains(w.excludes, m) {
			w.excludes = append(w.excludes, m)
		}
	}
	for range d.below(4) {
		m := d.module()
		if d.below(3) == 0 {
			m.Version = ""
		}
		w.replaces[m] = d.module()
	}
	for _, path := range somePaths {
		for _, version := range someVersions {
			if d.below(40) != 0 {
				w.add(d, api.Module{Path: path, Version: version})
			}
		}
	}
	return w
}

// add puts a release into the registry, and sometimes a second one behind it that does not count.
func (w *world) add(d *dice, m api.Module) {
	p := planned{requires: d.modules(2), broken: d.below(40) == 0}
	name := m.Path
	if p.broken && d.below(2) == 0 {
		name = "else/" + name
	}
	manifest := "module " + name + "\n" + linesOf("require", p.requires)
	if p.broken && name == m.Path {
		manifest += "nonsense"
	}
	p.release = api.Release{Path: m.Path, Version: m.Version, Manifest: manifest, Files: []api.File{{Name: "x", Data: fmt.Sprint(d.below(1000))}}}
	w.releases[m] = p
	w.registry = append(w.registry, p.release)
	if d.below(4) == 0 {
		w.registry = append(w.registry, api.Release{Path: m.Path, Version: m.Version, Manifest: "module " + m.Path + "\n" + linesOf("require", d.modules(3))})
	}
}

func linesOf(word string, list []api.Module) string {
	var text strings.Builder
	for _, m := range list {
		fmt.Fprintf(&text, "%s %s %s\n", word, m.Path, m.Version)
	}
	return text.String()
}

func (w world) root() string {
	text := "module " + rootPath + "\n" + linesOf("require", w.requires) + linesOf("exclude", w.excludes)
	var lines []string
	for from, to := range w.replaces {
		lines = append(lines, strings.TrimSpace("replace "+from.Path+" "+from.Version)+" => "+to.Path+" "+to.Version)
	}
	slices.Sort(lines)
	return text + strings.Join(lines, "\n")
}

// asked: what counts of requirements.
func (w world) asked(requires []api.Module) []api.Module {
	return slices.DeleteFunc(slices.Clone(requires), func(m api.Module) bool {
		return m.Path == rootPath || slices.Contains(w.excludes, m)
	})
}

// read: the release that is read for a module.
func (w world) read(m api.Module) (planned, bool) {
	for _, left := range []api.Module{m, {Path: m.Path}} {
		if to, ok := w.replaces[left]; ok {
			p, ok := w.releases[to]
			return p, ok
		}
	}
	p, ok := w.releases[m]
	return p, ok
}

func (w world) needsOf(m api.Module) []api.Module {
	p, ok := w.read(m)
	if !ok || p.broken {
		return nil
	}
	return w.asked(p.requires)
}

// needed: if the root has these requirements, in rising order, found by adding until nothing is new.
func (w world) needed(requires []api.Module) []api.Module {
	needed := w.asked(requires)
	for i := 0; i < len(needed); i++ {
		for _, m := range w.needsOf(needed[i]) {
			if !slices.Contains(needed, m) {
				needed = append(needed, m)
			}
		}
	}
	slices.SortFunc(needed, byPathThenVersion)
	return needed
}

func byPathThenVersion(a, b api.Module) int {
	if a.Path != b.Path {
		return strings.Compare(a.Path, b.Path)
	}
	return slices.Index(someVersions, a.Version) - slices.Index(someVersions, b.Version)
}

// want: what Load must answer with these sums.
func (w world) want(sums map[api.Module]string) (api.Build, api.Fault) {
	needed := w.needed(w.requires)
	for _, m := range needed {
		if p, ok := w.read(m); !ok {
			return api.Build{}, api.Fault{Kind: api.Missing, Path: m.Path, Version: m.Version}
		} else if p.broken {
			return api.Build{}, api.Fault{Kind: api.Broken, Path: m.Path, Version: m.Version}
		}
	}
	all := map[api.Module]string{}
	for m, sum := range sums {
		all[m] = sum
	}
	var other []api.Module
	for _, m := range needed {
		p, _ := w.read(m)
		name, sum := api.Module{Path: p.release.Path, Version: p.release.Version}, trellis.Digest(p.release)
		if all[name] != "" && all[name] != sum {
			other = append(other, name)
		}
		all[name] = sum
	}
	if len(other) > 0 {
		least := slices.MinFunc(other, byPathThenVersion)
		return api.Build{}, api.Fault{Kind: api.Sum, Path: least.Path, Version: least.Version}
	}
	greatest := map[string]api.Module{}
	for _, m := range needed {
		greatest[m.Path] = m
	}
	build := api.Build{Sums: sumText(all)}
	for _, path := range slices.Sorted(slices.Values(somePaths)) {
		if m, ok := greatest[path]; ok {
			build.List = append(build.List, m)
		}
	}
	return build, api.Fault{}
}

func sumText(sums map[api.Module]string) string {
	var text strings.Builder
	for _, path := range slices.Sorted(slices.Values(somePaths)) {
		for _, version := range someVersions {
			if sum := sums[api.Module{Path: path, Version: version}]; sum != "" {
				fmt.Fprintf(&text, "%s %s %s\n", path, version, sum)
			}
		}
	}
	return text.String()
}

// sums: those of some releases, now and then another one.
func (w world) sums(d *dice) map[api.Module]string {
	sums := map[api.Module]string{}
	for range d.below(6) {
		m := d.module()
		sums[m] = trellis.Digest(w.releases[m].release)
		if d.below(4) == 0 {
			sums[m] = "0123456789abcdef"
		}
	}
	return sums
}

func TestLoadOfManyWorlds(t *testing.T) {
	d := dice(6)
	met := map[api.Kind]int{}
	for range 4000 {
		w := d.world()
		sums := w.sums(&d)
		want, fault := w.want(sums)
		met[fault.Kind]++
		build, err := trellis.Load(w.root(), w.registry, sumText(sums))
		if faultOf(t, err) != fault || build.Sums != want.Sums || !slices.Equal(build.List, want.List) {
			t.Fatalf("P6: Load(%q, %q, %q) = %+v, %+v, want %+v, %+v", w.root(), w.registry, sumText(sums), build, faultOf(t, err), want, fault)
		}
		if err == nil {
			w.checkMet(t, build.List)
			w.checkAsked(t, build.List)
		}
	}
	for _, kind := range []api.Kind{0, api.Missing, api.Broken, api.Sum} {
		if met[kind] < 100 {
			t.Errorf("the worlds are too much alike: %v", met)
		}
	}
}

// checkMet: what the root and each version that is taken require is there, in that version at least.
func (w world) checkMet(t *testing.T, list []api.Module) {
	t.Helper()
	all := w.asked(w.requires)
	for _, m := range list {
		all = append(all, w.needsOf(m)...)
	}
	for _, r := range all {
		if !slices.ContainsFunc(list, func(m api.Module) bool { return m.Path == r.Path && byPathThenVersion(m, r) >= 0 }) {
			t.Errorf("P7: %q takes %s, where %v is required", w.root(), listed(list), r)
		}
	}
}

// checkAsked: each version that is taken is required, as it stands there, by something that is needed.
func (w world) checkAsked(t *testing.T, list []api.Module) {
	t.Helper()
	all := w.asked(w.requires)
	for _, m := range w.needed(w.requires) {
		all = append(all, w.needsOf(m)...)
	}
	for _, m := range list {
		if !slices.Contains(all, m) {
			t.Errorf("P7: %q takes %v, which nothing requires", w.root(), m)
		}
	}
}
