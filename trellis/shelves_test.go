package trellis_test

import (
	"fmt"
	"regexp"
	"slices"
	"strings"
	"testing"

	"trellis/api"
	"trellis/trellis"
)

// stocked: a world whose root and releases have sources.
type stocked struct {
	world
	files []api.File
}

var (
	someNames    = []string{"x.tl", "x.tl", "y.tl", "/x.tl", "c/x.tl", "c/x.tl", "c/.tl", "d/x.tl", "c/d/x.tl", "x", "c/x.t"}
	somePackages = []string{"a", "a/c", "a/d", "b", "b/c", "b/d", "b/c/d", "b/c/c", "b-c", "c", "c/d", "d", "d/c", "z"}
	someEnds     = []string{"", "\n", "let x", "let x\nimport \"q\"", "\nlet\nimport", " import \"q\"", "//"}
)

// head: imports some of these packages; now and then it can't be read.
func (d *dice) head(packages []string) string {
	text := d.text([]string{"\n", "// x\n", "//import\n"}, 1)
	for range min(len(packages), d.below(3)) {
		text += "import \"" + packages[d.below(len(packages))] + "\"\n" + d.text([]string{"\n", "//\n"}, 1)
	}
	if d.below(40) == 0 {
		return text + "import q\nlet"
	}
	return text + someEnds[d.below(len(someEnds))]
}

func (d *dice) names(most int) []api.File {
	var files []api.File
	for range d.below(most + 1) {
		files = append(files, api.File{Name: someNames[d.below(len(someNames))]})
	}
	return files
}

// fill writes heads that mostly import packages that there are, and from greater paths, so that not all is a ring or unknown.
func (d *dice) fill(files []api.File, path string, packages []string) {
	greater := slices.DeleteFunc(slices.Clone(packages), func(p string) bool { return p <= path+"/c" })
	for i := range files {
		switch d.below(30) {
		case 0:
			files[i].Data = d.head(somePackages)
		case 1, 2:
			files[i].Data = d.head(packages)
		default:
			files[i].Data = d.head(greater)
		}
	}
}

func (d *dice) stocked() stocked {
	s := stocked{d.world(), d.names(8)}
	s.requires = d.modules(6)
	for i, r := range s.registry {
		s.registry[i].Files = d.names(8)
		name := api.Module{Path: r.Path, Version: r.Version}
		if p := s.releases[name]; i == 0 || s.registry[i-1].Path != r.Path || s.registry[i-1].Version != r.Version {
			p.release = s.registry[i]
			s.releases[name] = p
		}
	}
	there := s.packages()
	d.fill(s.files, rootPath, there)
	for _, r := range s.registry {
		d.fill(r.Files, r.Path, there)
	}
	return s
}

// packages: those that a module has, or several.
func (s stocked) packages() []string {
	build, _ := s.want(nil)
	o := modelOrder{modules: s.filesBy(build.List)}
	return slices.DeleteFunc(slices.Clone(somePackages), func(path string) bool {
		_, fault := o.importsOf(path)
		return fault.Kind == api.Unknown
	})
}

// from: some packages, mostly of those that there are.
func (d *dice) from(there []string) []string {
	var from []string
	for range d.below(4) {
		if len(there) == 0 || d.below(20) == 0 {
			there = somePackages
		}
		from = append(from, there[d.below(len(there))])
	}
	return from
}

// filesBy: the files of each module, by its path as it is needed.
func (s stocked) filesBy(list []api.Module) map[string][]api.File {
	all := map[string][]api.File{rootPath: s.files}
	for _, m := range list {
		p, _ := s.read(m)
		all[m.Path] = p.release.Files
	}
	return all
}

// modelOrder: the document's words, one after the other.
type modelOrder struct {
	modules map[string][]api.File
	way     []string
	told    []string
}

var (
	importForm = regexp.MustCompile(`^import "([a-z0-9._/-]+)"$`)
	sourceForm = regexp.MustCompile(`^(?:(.*)/)?[^/]*\.tl$`)
)

// headOf: the imports of a source, and whether it can be read.
func headOf(data string) ([]string, bool) {
	var imports []string
	for _, line := range strings.Split(data, "\n") {
		if found := importForm.FindStringSubmatch(line); found != nil {
			imports = append(imports, found[1])
		} else if line != "" && !strings.HasPrefix(line, "//") {
			return imports, !strings.HasPrefix(line, "import")
		}
	}
	return imports, true
}

// sourcesOf: the data of the sources in a directory, by name.
func sourcesOf(files []api.File, directory string) map[string]string {
	found := map[string]string{}
	for _, f := range files {
		parts := sourceForm.FindStringSubmatch(f.Name)
		if _, again := found[f.Name]; parts != nil && !again && parts[1] == directory {
			found[f.Name] = f.Data
		}
	}
	return found
}

func (o *modelOrder) importsOf(path string) ([]string, api.Fault) {
	var having []map[string]string
	for module, files := range o.modules {
		if rest, below := strings.CutPrefix(path+"/", module+"/"); below {
			if found := sourcesOf(files, strings.TrimSuffix(rest, "/")); len(found) > 0 {
				having = append(having, found)
			}
		}
	}
	if len(having) == 0 {
		return nil, api.Fault{Kind: api.Unknown, Path: path}
	}
	if len(having) > 1 {
		return nil, api.Fault{Kind: api.Ambiguous, Path: path}
	}
	imports := map[string]bool{}
	var unread []string
	for name, data := range having[0] {
		list, ok := headOf(data)
		if !ok {
			unread = append(unread, name)
		}
		for _, p := range list {
			imports[p] = true
		}
	}
	if len(unread) > 0 {
		return nil, api.Fault{Kind: api.Source, Path: path, Version: slices.Min(unread)}
	}
	var all []string
	for p := range imports {
		all = append(all, p)
	}
	return all, api.Fault{}
}

func (o *modelOrder) order(list []string) api.Fault {
	for _, path := range slices.Sorted(slices.Values(list)) {
		if slices.Contains(o.told, path) {
			continue
		}
		if slices.Contains(o.way, path) {
			return api.Fault{Kind: api.Ring, Path: path}
		}
		imports, fault := o.importsOf(path)
		if fault.Kind != 0 {
			return fault
		}
		o.way = append(o.way, path)
		if fault := o.order(imports); fault.Kind != 0 {
			return fault
		}
		o.way = o.way[:len(o.way)-1]
		o.told = append(o.told, path)
	}
	return api.Fault{}
}

func (s stocked) wantPackages(from []string) ([]string, api.Fault) {
	build, fault := s.want(nil)
	if fault.Kind != 0 {
		return nil, fault
	}
	o := modelOrder{modules: s.filesBy(build.List)}
	if fault := o.order(from); fault.Kind != 0 {
		return nil, fault
	}
	return o.told, api.Fault{}
}

func TestPackagesOfManyWorlds(t *testing.T) {
	d := dice(11)
	met := map[api.Kind]int{}
	long := 0
	for range 6000 {
		s := d.stocked()
		from := d.from(s.packages())
		want, fault := s.wantPackages(from)
		met[fault.Kind]++
		got, err := trellis.Packages(s.root(), s.registry, s.files, from)
		if !slices.Equal(got, want) || faultOf(t, err) != fault {
			t.Fatalf("P11: Packages(%q, %q, %q, %q) = %q, %+v, want %q, %+v", s.root(), s.registry, s.files, from, got, faultOf(t, err), want, fault)
		}
		if again, err := trellis.Packages(s.root(), s.registry, s.files, mixed(&d, append(from, from...))); !slices.Equal(again, want) || faultOf(t, err) != fault {
			t.Fatalf("P11: from %q in another order: %q, %+v, want %q, %+v", from, again, faultOf(t, err), want, fault)
		}
		if err == nil {
			s.checkBehind(t, got, from)
		}
		if len(got) > 3 {
			long++
		}
	}
	for _, kind := range []api.Kind{0, api.Missing, api.Broken, api.Unknown, api.Ambiguous, api.Source, api.Ring} {
		if met[kind] < 50 || long < 100 {
			t.Fatalf("the worlds are too much alike: %v, %d long orders", met, long)
		}
	}
}

// checkBehind: each package stands behind all that it imports, and is asked for or imported.
func (s stocked) checkBehind(t *testing.T, list, from []string) {
	t.Helper()
	build, err := trellis.Load(s.root(), s.registry, "")
	if err != nil {
		t.Errorf("P11: %q are told, where Load answers %v", list, err)
	}
	o := modelOrder{modules: s.filesBy(build.List)}
	asked := slices.Clone(from)
	for i, path := range list {
		imports, fault := o.importsOf(path)
		asked = append(asked, imports...)
		for _, p := range imports {
			if !slices.Contains(list[:i], p) {
				t.Errorf("P12: %q does not stand behind %q in %q", path, p, list)
			}
		}
		if fault.Kind != 0 || slices.Contains(list[:i], path) {
			t.Errorf("P11: %q in %q: %+v", path, list, fault)
		}
	}
	for _, path := range list {
		if !slices.Contains(asked, path) {
			t.Errorf("P11: %q in %q is asked for by nothing", path, list)
		}
	}
	if slices.Sort(asked); fmt.Sprint(slices.Compact(asked)) != fmt.Sprint(slices.Sorted(slices.Values(list))) {
		t.Errorf("P11: %q are asked for, %q are told", asked, list)
	}
}
