package manifests

import "strings"

// keyword: a line's first word, or that of the block in which it stands.
type keyword int

const (
	noKeyword keyword = iota
	moduleKeyword
	requireKeyword
	excludeKeyword
	replaceKeyword
)

// state: where in the manifest the next line stands.
type state int

const (
	atStart state = iota // nothing was said yet
	outside              // of any block
	inBlock
)

// statement: what the line of this number says.
type statement struct {
	number int
	says   Line
}

type parser struct {
	state      state
	block      keyword
	statements []statement
}

// parse answers what is said up to the first line with a Syntax error, and that line's number (0: none has one).
// What an open end is told of is the last line, which may say something all the same.
func parse(text string) ([]statement, int) {
	var p parser
	lines := strings.Split(text, "\n")
	for i, line := range lines {
		if !p.take(i+1, tokensOf(line)) {
			return p.statements, i + 1
		}
	}
	if !p.mayEnd() {
		return p.statements, len(lines)
	}
	return p.statements, 0
}

// take takes in a line; false: its words have no form that may stand there.
func (p *parser) take(number int, tokens []token) bool {
	switch {
	case len(tokens) == 0:
		return true
	case p.state == inBlock:
		return p.takeInBlock(number, tokens)
	}
	first, rest := keywordOf(tokens[0].text), tokens[1:]
	if first == moduleKeyword && p.state != atStart {
		return false
	}
	if opensBlock(first, rest) {
		p.state, p.block = inBlock, first
		return true
	}
	p.state = outside
	return p.add(number, first, rest)
}

func (p *parser) takeInBlock(number int, tokens []token) bool {
	if fit(tokens, closing) {
		p.state = outside
		return true
	}
	return p.add(number, p.block, tokens)
}

func (p *parser) add(number int, first keyword, rest []token) bool {
	says, ok := meaning(first, rest)
	if ok {
		p.statements = append(p.statements, statement{number, says})
	}
	return ok
}

// mayEnd looks for the module in the first statement alone, for it may stand nowhere else.
func (p *parser) mayEnd() bool {
	if p.state == inBlock || len(p.statements) == 0 {
		return false
	}
	_, named := p.statements[0].says.(Module)
	return named
}

func keywordOf(text string) keyword {
	switch text {
	case "module":
		return moduleKeyword
	case "require":
		return requireKeyword
	case "exclude":
		return excludeKeyword
	case "replace":
		return replaceKeyword
	}
	return noKeyword
}

func opensBlock(first keyword, rest []token) bool {
	switch first {
	case requireKeyword, excludeKeyword, replaceKeyword:
		return fit(rest, opening)
	}
	return false
}

// meaning is what a keyword and the tokens behind it say; false: they have no form.
func meaning(first keyword, rest []token) (Line, bool) {
	switch {
	case first == moduleKeyword && fit(rest, word):
		return Module{rest[0].text}, true
	case first == requireKeyword && fit(rest, word, word):
		return Requirement{rest[0].text, rest[1].text}, true
	case first == excludeKeyword && fit(rest, word, word):
		return Exclusion{rest[0].text, rest[1].text}, true
	case first == replaceKeyword && fit(rest, word, arrow, word, word):
		return Replacement{rest[0].text, "", rest[2].text, rest[3].text}, true
	case first == replaceKeyword && fit(rest, word, word, arrow, word, word):
		return Replacement{rest[0].text, rest[1].text, rest[3].text, rest[4].text}, true
	}
	return nil, false
}
