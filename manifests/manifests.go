package manifests

import (
	"slices"
	"strings"

	"trellis/api"
)

// Read answers what the lines of a manifest say, as they stand there, or the *api.Fault of the first line that has one.
func Read(text string) ([]Line, error) {
	statements, wrong := parse(text)
	// A Syntax error goes ahead of any other error of its own line.
	if fault := check(without(statements, wrong)); fault != nil {
		return nil, fault
	}
	if wrong != 0 {
		return nil, &api.Fault{Kind: api.Syntax, Line: wrong}
	}
	return linesOf(statements), nil
}

// OneForm writes lines, which Read has answered, in the one form of a manifest.
func OneForm(lines []Line) string {
	sorted := slices.Clone(lines)
	slices.SortFunc(sorted, func(a, b Line) int { return comparePlaces(placeOf(a), placeOf(b)) })
	var text strings.Builder
	for _, line := range sorted {
		text.WriteString(line.Text())
		text.WriteByte('\n')
	}
	return text.String()
}

// without leaves out what the line of this number says: that of the last one, if any.
func without(statements []statement, number int) []statement {
	last := len(statements) - 1
	if last >= 0 && statements[last].number == number {
		return statements[:last]
	}
	return statements
}

func linesOf(statements []statement) []Line {
	lines := make([]Line, 0, len(statements))
	for _, s := range statements {
		lines = append(lines, s.says)
	}
	return lines
}
