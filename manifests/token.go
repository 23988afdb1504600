package manifests

import "strings"

type tokenKind int

const (
	word tokenKind = iota
	opening
	closing
	arrow
)

type token struct {
	kind tokenKind
	text string
}

// tokensOf splits at blanks and TABs alone: any other space, as the byte 13, is part of a word.
func tokensOf(line string) []token {
	said, _, _ := strings.Cut(line, "//")
	var tokens []token
	for _, text := range strings.FieldsFunc(said, isBlank) {
		tokens = append(tokens, token{kindOf(text), text})
	}
	return tokens
}

func isBlank(r rune) bool { return r == ' ' || r == '\t' }

func kindOf(text string) tokenKind {
	switch text {
	case "(":
		return opening
	case ")":
		return closing
	case "=>":
		return arrow
	}
	return word
}

// fit tells whether the tokens are of these kinds, no more and no fewer.
func fit(tokens []token, kinds ...tokenKind) bool {
	if len(tokens) != len(kinds) {
		return false
	}
	for i, kind := range kinds {
		if tokens[i].kind != kind {
			return false
		}
	}
	return true
}
