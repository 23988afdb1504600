package trellis_test

import (
	"errors"
	"fmt"
	"slices"
	"strings"
	"testing"

	"trellis/api"
	"trellis/trellis"
)

// faultOf: the fault that an error is; a fault of noughts, if there is none.
func faultOf(t *testing.T, err error) api.Fault {
	t.Helper()
	if err == nil {
		return api.Fault{}
	}
	var fault *api.Fault
	if !errors.As(err, &fault) || fault == nil {
		t.Fatalf("an error that is no fault: %#v", err)
	}
	return *fault
}

// dice: numbers in a fixed sequence, so that each run tries the same texts.
type dice uint64

func (d *dice) below(n int) int {
	*d = *d*6364136223846793005 + 1442695040888963407
	return int(uint64(*d>>33) % uint64(n))
}

func (d *dice) text(pieces []string, most int) string {
	var text strings.Builder
	for range d.below(most + 1) {
		text.WriteString(pieces[d.below(len(pieces))])
	}
	return text.String()
}

func mixed(d *dice, list []string) []string {
	list = slices.Clone(list)
	for i := range list {
		k := i + d.below(len(list)-i)
		list[i], list[k] = list[k], list[i]
	}
	return list
}

func TestCallsTakeAnyTexts(t *testing.T) {
	pieces := []string{"module", "require", "exclude", "replace", " ", " ", " ", "\t", "\n", "\n", "(", ")", "=>", "//", "/", "a", "b/c", "B", ".", "..", "v", "v1.0.0", "v1.0.0-a.1", "-", "0", "1", "\x00", "\r", "\xff", "é", "\u2028", "module a\n", "require (\n"}
	d := dice(1)
	for range 20000 {
		a, b := d.text(pieces, 12), d.text(pieces, 6)
		tryCompare(t, a, b)
		tryPrint(t, a)
		tryPrint(t, "module a\n"+a)
		tryDigest(t, api.Release{Path: a, Version: b, Manifest: a + b, Files: []api.File{{Name: b, Data: a}, {Name: a, Data: b}}})
		tryLoad(t, a, []api.Release{{Path: a, Version: b}}, b)
		tryLoad(t, "module b\nrequire a v1.0.0\n"+b, []api.Release{{Path: a, Version: b, Manifest: a}, {Path: "a", Version: "v1.0.0", Manifest: "module a\n" + a}}, b)
		tryLoad(t, "module b\nrequire a v1.0.0", []api.Release{{Path: "a", Version: "v1.0.0", Manifest: "module a\n" + b, Files: []api.File{{Name: a, Data: b}}}}, "")
		tryLoad(t, "module b", nil, "a v0.0.1 0123456789abcdef\n"+a)
		tryChanges(t, a, []api.Release{{Path: a, Version: b}}, a, b)
		tryChanges(t, "module b\nrequire a v1.0.0\n"+b, []api.Release{{Path: a, Version: b, Manifest: a}, {Path: "a", Version: "v1.0.0", Manifest: "module a\n" + a}}, a, b)
		tryChanges(t, "module b\nrequire a v1.1.0\n"+a, []api.Release{{Path: "a", Version: "v1.1.0", Manifest: "module a\n" + b}, {Path: "a", Version: "v1.0.0", Manifest: "module a\n" + a}}, "a", "v1.0.0")
		tryPackages(t, a, []api.Release{{Path: a, Version: b}}, []api.File{{Name: a, Data: b}}, []string{b, a})
		tryPackages(t, "module b\nrequire a v1.0.0\n"+b, []api.Release{{Path: "a", Version: "v1.0.0", Manifest: "module a\n", Files: []api.File{{Name: b + ".tl", Data: a}}}}, []api.File{{Name: a + ".tl", Data: b}}, []string{"b/" + a, "a/" + b})
		head := d.text([]string{"import \"", "import \"", "\"\n", "\"\n", "a", "b", "/c", "\n", "//", "import", "\"", " ", "\r", "B"}, 12)
		tryPackages(t, "module b\nrequire a v1.0.0", []api.Release{{Path: "a", Version: "v1.0.0", Manifest: "module a", Files: []api.File{{Name: ".tl", Data: head}}}}, []api.File{{Name: "x.tl", Data: head}, {Name: "c/x.tl", Data: b}}, []string{"b", "a"})
	}
}

// tryPackages: each package is told once, or there is a fault; the same each time; and nothing is written into.
func tryPackages(t *testing.T, root string, registry []api.Release, files []api.File, from []string) {
	t.Helper()
	before := fmt.Sprintf("%q %q %q", registry, files, from)
	list, err := trellis.Packages(root, registry, files, from)
	again, errAgain := trellis.Packages(root, registry, files, from)
	fault := faultOf(t, err)
	if !slices.Equal(list, again) || fault != faultOf(t, errAgain) {
		t.Errorf("P2: Packages(%q, %s) twice: %q, %v; %q, %v", root, before, list, err, again, errAgain)
	}
	if err != nil && (len(list) != 0 || err == errAgain) {
		t.Errorf("P1: Packages(%q, %s) = %q, %+v", root, before, list, fault)
	}
	if _, wrong := trellis.Load(root, registry, ""); wrong != nil && fault != faultOf(t, wrong) {
		t.Errorf("P11: Packages(%q, %s): %+v, want the error of Load %+v", root, before, fault, faultOf(t, wrong))
	}
	for _, path := range from {
		if err == nil && !slices.Contains(list, path) {
			t.Errorf("P11: Packages(%q, %s) = %q, without %q", root, before, list, path)
		}
	}
	if once := slices.Compact(slices.Sorted(slices.Values(list))); len(once) != len(list) {
		t.Errorf("P11: Packages(%q, %s) = %q, with one twice", root, before, list)
	}
	if after := fmt.Sprintf("%q %q %q", registry, files, from); after != before {
		t.Errorf("P2: Packages wrote into %s: %s", before, after)
	}
}

// tryChanges: Upgrade, Downgrade and Minimize answer a manifest in its one form or a fault, the same each time, and write into nothing.
func tryChanges(t *testing.T, root string, registry []api.Release, path, version string) {
	t.Helper()
	before := fmt.Sprintf("%q", registry)
	tryChange(t, "Upgrade", root, func() (string, error) { return trellis.Upgrade(root, registry, path, version) })
	tryChange(t, "Downgrade", root, func() (string, error) { return trellis.Downgrade(root, registry, path, version) })
	tryChange(t, "Minimize", root, func() (string, error) { return trellis.Minimize(root, registry) })
	if after := fmt.Sprintf("%q", registry); after != before {
		t.Errorf("P2: a change wrote into %s: %s", before, after)
	}
}

func tryChange(t *testing.T, name, root string, call func() (string, error)) {
	t.Helper()
	text, err := call()
	again, errAgain := call()
	fault := faultOf(t, err)
	if text != again || fault != faultOf(t, errAgain) {
		t.Errorf("P2: %s of %q twice: %q, %v; %q, %v", name, root, text, err, again, errAgain)
	}
	if _, wrong := trellis.Print(root); wrong != nil && fault != faultOf(t, wrong) {
		t.Errorf("P1: %s of %q: %+v, want its own error %+v", name, root, fault, faultOf(t, wrong))
	}
	if err != nil && (text != "" || err == errAgain) {
		t.Errorf("P1: %s of %q = %q, %+v", name, root, text, fault)
	}
	if form, wrong := trellis.Print(text); err == nil && (form != text || wrong != nil) {
		t.Errorf("P4: %s of %q = %q, which is not the one form", name, root, text)
	}
}

func tryCompare(t *testing.T, a, b string) {
	t.Helper()
	order, err := trellis.Compare(a, b)
	again, errAgain := trellis.Compare(a, b)
	fault := faultOf(t, err)
	if order != again || fault != faultOf(t, errAgain) {
		t.Errorf("P2: Compare(%q, %q) twice: %d, %v; %d, %v", a, b, order, err, again, errAgain)
	}
	if err != nil && (order != 0 || fault.Kind != api.Version || fault.Line != 0 || fault.Path != "") {
		t.Errorf("P1: Compare(%q, %q) = %d, %+v", a, b, order, fault)
	}
	if err != nil && err == errAgain {
		t.Errorf("P2: Compare(%q, %q) answers one fault twice", a, b)
	}
}

func tryPrint(t *testing.T, manifest string) {
	t.Helper()
	text, err := trellis.Print(manifest)
	again, errAgain := trellis.Print(manifest)
	fault := faultOf(t, err)
	if text != again || fault != faultOf(t, errAgain) {
		t.Errorf("P2: Print(%q) twice: %q, %v; %q, %v", manifest, text, err, again, errAgain)
	}
	if err == nil {
		if form, err := trellis.Print(text); form != text || err != nil {
			t.Errorf("P4: Print(%q) = %q, %v", text, form, err)
		}
		return
	}
	if text != "" || err == errAgain {
		t.Errorf("P1: Print(%q) = %q, %+v", manifest, text, fault)
	}
	if fault.Line < 1 || fault.Line > strings.Count(manifest, "\n")+1 {
		t.Errorf("P4: Print(%q): %+v", manifest, fault)
	}
	if (fault.Path != "") != (fault.Kind == api.Path) || (fault.Version != "") != (fault.Kind == api.Version) {
		t.Errorf("P1: Print(%q): %+v", manifest, fault)
	}
}

func tryDigest(t *testing.T, r api.Release) {
	t.Helper()
	before := fmt.Sprintf("%q", r)
	sum, again := trellis.Digest(r), trellis.Digest(r)
	if sum != again || len(sum) != 16 || strings.Trim(sum, "0123456789abcdef") != "" {
		t.Errorf("P5: Digest(%q) = %q, then %q", r, sum, again)
	}
	if after := fmt.Sprintf("%q", r); after != before {
		t.Errorf("P2: Digest wrote into %s: %s", before, after)
	}
}

func tryLoad(t *testing.T, root string, registry []api.Release, sums string) {
	t.Helper()
	before := fmt.Sprintf("%q", registry)
	build, err := trellis.Load(root, registry, sums)
	again, errAgain := trellis.Load(root, registry, sums)
	fault := faultOf(t, err)
	if build.Sums != again.Sums || !slices.Equal(build.List, again.List) || fault != faultOf(t, errAgain) {
		t.Errorf("P2: Load(%q, %q, %q) twice: %q, %v; %q, %v", root, registry, sums, build, err, again, errAgain)
	}
	if err != nil && (build.Sums != "" || len(build.List) != 0 || err == errAgain) {
		t.Errorf("P1: Load(%q, %q, %q) = %q, %+v", root, registry, sums, build, fault)
	}
	if err == nil {
		tryLoadAgain(t, root, registry, build)
	}
	if after := fmt.Sprintf("%q", registry); after != before {
		t.Errorf("P2: Load wrote into %s: %s", before, after)
	}
}

// tryLoadAgain: with the sums that it answered a Load answers the same.
func tryLoadAgain(t *testing.T, root string, registry []api.Release, build api.Build) {
	t.Helper()
	again, err := trellis.Load(root, registry, build.Sums)
	if err != nil || build.Sums != again.Sums || !slices.Equal(build.List, again.List) {
		t.Errorf("P6: Load(%q, %q, %q) = %q, %+v", root, registry, build.Sums, again, faultOf(t, err))
	}
}

func TestCallsTakeNothing(t *testing.T) {
	tryCompare(t, "", "")
	tryPrint(t, "")
	tryDigest(t, api.Release{})
	tryLoad(t, "", nil, "")
	tryLoad(t, "module a", nil, "")
	tryLoad(t, "module a", []api.Release{{}}, "")
	tryChanges(t, "", nil, "", "")
	tryChanges(t, "module a", nil, "", "")
	tryChanges(t, "module a", nil, "b", "v1.0.0")
	tryChanges(t, "module a", []api.Release{{}}, "", "")
	tryPackages(t, "", nil, nil, nil)
	tryPackages(t, "module a", nil, nil, nil)
	tryPackages(t, "module a", []api.Release{{}}, []api.File{{}}, []string{""})
}

func TestCallsTakeMuch(t *testing.T) {
	const many = 200000
	tryCompare(t, "v"+strings.Repeat("1.", many), "v1.0.0-"+strings.Repeat("a.", many))
	for _, piece := range []string{"(", "\n", " ", "/", "require (\n", "module a\n", ")\n", "a v1.0.0\n"} {
		tryPrint(t, strings.Repeat(piece, many))
		tryPrint(t, "module a\nrequire (\n"+strings.Repeat(piece, many))
	}
	for _, piece := range []string{"\n", "//\n", "import \"a\"\n", "import \"", "a", "/"} {
		text := strings.Repeat(piece, many)
		tryPackages(t, "module a", nil, []api.File{{Name: "x.tl", Data: text}, {Name: text + ".tl"}, {Name: text}}, []string{"a", text})
	}
	var lines strings.Builder
	for i := range many {
		fmt.Fprintf(&lines, "exclude p%d v1.%d.0\n", i%1000, many-i)
	}
	text, err := trellis.Print("module a\n" + lines.String())
	if err != nil || strings.Count(text, "\n") != many+1 {
		t.Errorf("P1: %d exclusions: %d lines, %v", many, strings.Count(text, "\n"), err)
	}
}

// TestDigestLeavesTheList: neither the files nor what stands behind them is written into.
func TestDigestLeavesTheList(t *testing.T) {
	whole := []api.File{{Name: "c", Data: "1"}, {Name: "b", Data: "2"}, {Name: "c", Data: "3"}, {Name: "a", Data: "4"}, {Name: "behind", Data: "5"}, {Name: "a", Data: "6"}}
	before := slices.Clone(whole)
	sum := trellis.Digest(api.Release{Files: whole[:4]})
	if !slices.Equal(whole, before) {
		t.Errorf("P2: the list is now %q", whole)
	}
	if want := trellis.Digest(api.Release{Files: slices.Clip(slices.Clone(before[:4]))}); sum != want {
		t.Errorf("P2: the sum hangs on what stands behind the list: %q, want %q", sum, want)
	}
}

// TestFaultsAreNew: who writes into a fault changes no later answer.
func TestFaultsAreNew(t *testing.T) {
	for _, call := range []func() error{
		func() error { _, err := trellis.Compare("x", "y"); return err },
		func() error { _, err := trellis.Print(""); return err },
		func() error { _, err := trellis.Print("module A"); return err },
		func() error { _, err := trellis.Print("module a\nrequire b v1"); return err },
		func() error { _, err := trellis.Print("module a\nrequire b v1.0.0\nrequire b v1.0.0"); return err },
		func() error { _, err := trellis.Load("module a", nil, "x"); return err },
		func() error { _, err := trellis.Load("module a\nrequire b v1.0.0", nil, ""); return err },
		func() error {
			_, err := trellis.Load("module a\nrequire b v1.0.0", known, "b v1.0.0"+zeros)
			return err
		},
		func() error { _, err := trellis.Upgrade("module a", market, "a", "v1.0.0"); return err },
		func() error { _, err := trellis.Upgrade("module a", market, "b", "v1"); return err },
		func() error { _, err := trellis.Upgrade("module a", market, "z", "v1.0.0"); return err },
		func() error { _, err := trellis.Downgrade("module a", market, "r", "v1.0.0"); return err },
		func() error { _, err := trellis.Minimize("module a\nrequire z v1.0.0", market); return err },
		func() error { _, err := trellis.Packages("module a", nil, nil, []string{"B"}); return err },
		func() error { _, err := trellis.Packages("module a", nil, nil, []string{"b"}); return err },
		func() error {
			_, err := trellis.Packages("module a\nrequire b v1.1.0\nrequire b/c v1.0.0", shelf, nil, []string{"b/c"})
			return err
		},
		func() error {
			_, err := trellis.Packages("module a", nil, filesOf("x.tl: A"), []string{"a"})
			return err
		},
		func() error {
			_, err := trellis.Packages("module a", nil, filesOf("x.tl: a"), []string{"a"})
			return err
		},
	} {
		first := call()
		want := faultOf(t, first)
		if want.Kind == 0 {
			t.Fatal("no fault to write into")
		}
		var fault *api.Fault
		errors.As(first, &fault)
		*fault = api.Fault{}
		if got := faultOf(t, call()); got != want {
			t.Errorf("P2: a fault is now %+v, want %+v", got, want)
		}
	}
}

// TestPrintHangsOnWhatIsSaid: the same lines in any order, in blocks or not, with any blanks and remarks, have one form.
func TestPrintHangsOnWhatIsSaid(t *testing.T) {
	said := []string{
		"require a/b v1.2.3", "require b v0.0.1-rc.1", "require c v10.0.0",
		"exclude a v1.0.0-9", "exclude a v1.0.0-10", "exclude a v1.0.0", "exclude d v9.0.0", "exclude d v10.0.0",
		"replace b => x v1.0.0", "replace c => y v1.0.0", "replace c v2.0.0 => x/y v1.0.0", "replace c v10.0.0 => z v0.0.0",
	}
	want := "module m\n" + strings.Join(said, "\n") + "\n"
	d := dice(2)
	for range 2000 {
		text := laidOut(&d, mixed(&d, said))
		if got, err := trellis.Print(text); got != want || err != nil {
			t.Fatalf("P4: Print(%q) = %q, %v, want %q", text, got, err, want)
		}
	}
}

// laidOut writes lines in one of many ways that say the same.
func laidOut(d *dice, lines []string) string {
	ends := []string{"\n", "\n\n", " \t\n", "// x\n", " // ( ) =>\n", "\n\t// require\n"}
	blanks := []string{" ", "\t", "  ", " \t "}
	end := func() string { return ends[d.below(len(ends))] }
	text := d.text(ends, 2) + "module m" + end()
	block := ""
	for _, line := range lines {
		first, rest, _ := strings.Cut(line, " ")
		if block != "" && (block != first || d.below(3) == 0) {
			text += ")" + end()
			block = ""
		}
		if block == "" && d.below(2) == 0 {
			text += first + blanks[d.below(len(blanks))] + "(" + end()
			block = first
		}
		if block != "" {
			line = rest
		}
		text += strings.ReplaceAll(line, " ", blanks[d.below(len(blanks))]) + end()
	}
	if block != "" {
		text += ")"
	}
	return text
}
