// Package sources: which files are sources, where they stand, and what they import.
package sources

import (
	"strings"

	"trellis/paths"
)

// IsSource tells whether a file of this name is a source.
func IsSource(name string) bool { return strings.HasSuffix(name, ".tl") }

// DirectoryOf is what stands ahead of the last slash of a name; empty, if there is none.
func DirectoryOf(name string) string {
	return name[:max(0, strings.LastIndexByte(name, '/'))]
}

// lineKind: what a line is to the head of a source.
type lineKind int

const (
	silentLine lineKind = iota // of the head, but it says nothing
	importLine
	endingLine
	wrongLine
)

// Imports are the paths that the head of a source names, as they stand there; false: the source can't be read.
func Imports(data string) ([]string, bool) {
	var imports []string
	for more := true; more; {
		var line string
		line, data, more = strings.Cut(data, "\n")
		switch kindOf(line) {
		case importLine:
			imports = append(imports, quoted(line))
		case endingLine:
			return imports, true
		case wrongLine:
			return nil, false
		}
	}
	return imports, true
}

func kindOf(line string) lineKind {
	switch {
	case line == "" || strings.HasPrefix(line, "//"):
		return silentLine
	case !strings.HasPrefix(line, "import"):
		return endingLine
	case paths.Check(quoted(line)) != nil:
		return wrongLine
	}
	return importLine
}

// quoted is what an import has between its quotes; empty, which is no path, if the line has not that form.
func quoted(line string) string {
	text, begins := strings.CutPrefix(line, `import "`)
	text, ends := strings.CutSuffix(text, `"`)
	if !begins || !ends {
		return ""
	}
	return text
}
