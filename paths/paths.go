// Package paths: which texts are paths of modules and packages. (Their order is that of strings.)
package paths

import (
	"strings"

	"trellis/api"
)

// Check is the fault of a text that is no path; nil, if it is one.
func Check(text string) *api.Fault {
	if isPath(text) {
		return nil
	}
	// A copy, so that the fault does not hold on to what the text was cut from.
	return &api.Fault{Kind: api.Path, Path: strings.Clone(text)}
}

func isPath(text string) bool {
	if len(text) > api.MaxPath {
		return false
	}
	for _, segment := range strings.Split(text, "/") {
		if !isSegment(segment) {
			return false
		}
	}
	return true
}

func isSegment(text string) bool {
	for i := range len(text) {
		if !isPathByte(text[i]) {
			return false
		}
	}
	return text != "" && text != "." && text != ".."
}

func isPathByte(b byte) bool {
	switch b {
	case '.', '-', '_':
		return true
	}
	return 'a' <= b && b <= 'z' || '0' <= b && b <= '9'
}
