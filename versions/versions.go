// Package versions: which texts are versions, and their order.
package versions

import (
	"cmp"
	"slices"
	"strings"

	"trellis/api"
)

// parts of a version. Numbers stay text, for they may have more digits than any integer holds.
type parts struct {
	numbers, marks []string
}

// Check is the fault of a text that is no version; nil, if it is one.
func Check(text string) *api.Fault {
	if isVersion(text) {
		return nil
	}
	// A copy, so that the fault does not hold on to what the text was cut from.
	return &api.Fault{Kind: api.Version, Version: strings.Clone(text)}
}

// Compare tells the order of two versions: -1, 0 or 1, as a is less than b, the same, or greater.
func Compare(a, b string) int {
	x, y := split(a), split(b)
	if order := slices.CompareFunc(x.numbers, y.numbers, compareNumbers); order != 0 {
		return order
	}
	if len(x.marks) == 0 || len(y.marks) == 0 {
		// The other way round: the one without marks is the greater one.
		return cmp.Compare(len(y.marks), len(x.marks))
	}
	return slices.CompareFunc(x.marks, y.marks, compareMarks)
}

func isVersion(text string) bool {
	if len(text) > api.MaxVersion || !strings.HasPrefix(text, "v") {
		return false
	}
	p := split(text)
	return len(p.numbers) == 3 && all(p.numbers, isNumber) && all(p.marks, isMark)
}

func split(text string) parts {
	numbers, marks, marked := strings.Cut(strings.TrimPrefix(text, "v"), "-")
	p := parts{numbers: strings.Split(numbers, ".")}
	if marked {
		p.marks = strings.Split(marks, ".")
	}
	return p
}

func all(texts []string, holds func(string) bool) bool {
	for _, text := range texts {
		if !holds(text) {
			return false
		}
	}
	return true
}

func isNumber(text string) bool {
	return isDigits(text) && (text == "0" || text[0] != '0')
}

func isMark(text string) bool {
	if isDigits(text) {
		return isNumber(text)
	}
	for i := range len(text) {
		if !isDigit(text[i]) && !isLetter(text[i]) && text[i] != '-' {
			return false
		}
	}
	return text != ""
}

func isDigits(text string) bool {
	for i := range len(text) {
		if !isDigit(text[i]) {
			return false
		}
	}
	return text != ""
}

func isDigit(b byte) bool { return '0' <= b && b <= '9' }

func isLetter(b byte) bool { return 'a' <= b && b <= 'z' || 'A' <= b && b <= 'Z' }

// compareNumbers needs no values: with no 0 ahead, the longer number is the greater one.
func compareNumbers(a, b string) int {
	if order := cmp.Compare(len(a), len(b)); order != 0 {
		return order
	}
	return strings.Compare(a, b)
}

func compareMarks(a, b string) int {
	x, y := isDigits(a), isDigits(b)
	switch {
	case x && y:
		return compareNumbers(a, b)
	case x:
		return -1
	case y:
		return 1
	}
	return strings.Compare(a, b)
}
