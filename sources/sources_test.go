package sources

import (
	"slices"
	"strings"
	"testing"

	"trellis/api"
)

func TestIsSource(t *testing.T) {
	for name, want := range map[string]bool{
		"x.tl": true, ".tl": true, "/.tl": true, "y/.tl": true, "/x.tl": true, "y/z/x.tl": true, "x.t.tl": true, "x .tl": true, "\xff\x00\n.tl": true, "Y/X.tl": true, "x.tl.tl": true,
		"": false, "tl": false, "xtl": false, "x.t": false, "x.tl ": false, "x.tl/": false, "x.tl/y": false, "x.tl.x": false, "x.TL": false, "x.tL": false, "x.tl\n": false, "x.tl\x00": false,
	} {
		if got := IsSource(name); got != want {
			t.Errorf("P11: is %q a source? %t", name, got)
		}
	}
}

func TestDirectoryOf(t *testing.T) {
	for name, want := range map[string]string{
		"": "", "x.tl": "", ".tl": "", "/x.tl": "", "/.tl": "", "y/x.tl": "y", "y/.tl": "y", "y/z/x.tl": "y/z", "/y/x.tl": "/y", "y//x.tl": "y/", "//x.tl": "/", "Y \n/x.tl": "Y \n", "x.tl/y.tl": "x.tl",
	} {
		if got := DirectoryOf(name); got != want {
			t.Errorf("P11: the directory of %q is %q, want %q", name, got, want)
		}
	}
}

func TestImports(t *testing.T) {
	long := strings.Repeat("a", api.MaxPath)
	for _, c := range []struct {
		data string
		want []string
	}{
		{"", nil}, {"\n", nil}, {"\n\n\n", nil}, {"//", nil}, {"// import \"q\"", nil}, {"//import\n///", nil},
		{"import \"b\"", []string{"b"}}, {"import \"b\"\n", []string{"b"}}, {"import \"b/c-d/e_f.0\"\n\n", []string{"b/c-d/e_f.0"}}, {"import \"" + long + "\"", []string{long}},
		{"import \"c\"\nimport \"b\"\nimport \"c\"", []string{"c", "b", "c"}},
		{"\n// x\n\nimport \"b\"\n//\n\nimport \"c\"\n// x", []string{"b", "c"}},
		// Any other line ends the head, whatever stands behind it.
		{"let x", nil}, {"let\nimport \"q\"\nimport", nil}, {"import \"b\"\nlet\nimport \"q\"\nimport", []string{"b"}},
		{" import \"q\"\nimport", nil}, {"\timport", nil}, {" \nimport \"q\"", nil}, {"\r\nimport \"q\"", nil}, {" //\nimport \"q\"", nil}, {"/ x\nimport \"q\"", nil}, {"/\nimport", nil}, {"Import \"q\"", nil}, {"impor\nimport", nil}, {"\"import\"", nil}, {"\x00\nimport", nil}, {"\ufeffimport \"q\"", nil},
	} {
		if got, ok := Imports(c.data); !slices.Equal(got, c.want) || !ok {
			t.Errorf("P11: %q imports %q, %t, want %q", c.data, got, ok, c.want)
		}
	}
}

func TestImportsOfWhatCannotBeRead(t *testing.T) {
	for _, line := range []string{
		"import", "imports", "imports\"", "import-b/c\"", "important = 1", "import b", "import\"b\"", "import  \"b\"", "import\t\"b\"", "import \"b\" ", "import \"b\"\r", "import \"b\" // x", "import \"b\"//", "import \"b\" \"c\"", "import \"b\"\"", "import \"\"b\"", "import 'b'", "import `b`", "import x \"b\"", "import (",
		"import \"", "import \"\"", "import \"b", "import b\"", "import \"B\"", "import \"b/\"", "import \"/b\"", "import \"b//c\"", "import \".\"", "import \"./b\"", "import \"b/..\"", "import \" b\"", "import \"b \"", "import \"\x00\"", "import \"é\"", "import \"" + strings.Repeat("a", api.MaxPath+1) + "\"",
	} {
		for _, data := range []string{line, line + "\n", "\n// x\n" + line + "\nlet x", "import \"b\"\n" + line + "\nimport \"c\""} {
			if got, ok := Imports(data); ok || len(got) != 0 {
				t.Errorf("P11: %q imports %q, %t", data, got, ok)
			}
		}
	}
}
