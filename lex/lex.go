// Package lex: see DOC.md, chapter 1.
package lex

import (
	"strconv"

	"doorkeeper/api"
)

// Lex tells the tokens of a configuration.
func Lex(s string) ([]api.Token, api.Errno) {
	if len(s) > api.MaxText {
		return nil, api.ErrLarge
	}
	l := lexer{reader: reader{text: s}}
	for l.skip(); !l.done(); l.skip() {
		if !l.next() {
			return nil, api.ErrForm
		}
	}
	return append(l.tokens, api.Token{Kind: api.TokEnd, At: len(s)}), api.OK
}

// Label tells whether s may stand as the label of a block.
func Label(s string) bool {
	r := reader{text: s}
	if !letter(r.peek()) || len(s) > api.MaxName {
		return false
	}
	r.pass(inLabel)
	return r.done()
}

// lexer makes tokens of what its reader tells. Its methods answer false where what stands there is none.
type lexer struct {
	reader
	tokens []api.Token
}

// skip goes over blanks and remarks.
func (l *lexer) skip() {
	for !l.done() {
		switch l.peek() {
		case ' ', '\n':
			l.at++
		case '#':
			l.pass(inLine)
		default:
			return
		}
	}
}

// next adds the token that begins here.
func (l *lexer) next() bool {
	t, ok := api.Token{At: l.at}, false
	switch b := l.peek(); {
	case startsName(b):
		t.Kind = api.TokName
		ok = l.name()
		t.Text = l.since(t.At)
	case digit(b):
		t.Kind = api.TokNum
		t.Num, ok = l.number()
	case b == '"':
		t.Kind = api.TokStr
		t.Parts, ok = l.parts()
	default:
		t.Kind = api.TokSign
		ok = l.sign()
		t.Text = l.since(t.At)
	}
	l.tokens = append(l.tokens, t)
	return ok
}

// name goes over a name.
func (l *lexer) name() bool {
	from := l.at
	if !startsName(l.peek()) {
		return false
	}
	l.pass(inName)
	return l.at-from <= api.MaxName
}

func (l *lexer) number() (int, bool) {
	from := l.at
	l.pass(digit)
	s := l.since(from)
	n, err := strconv.ParseInt(s, 10, 64)
	return int(n), err == nil && (s == "0" || s[0] != '0')
}

// sign goes over the longest sign that stands here.
func (l *lexer) sign() bool {
	for _, s := range [...]string{"==", "!=", "<=", ">=", "&&", "||"} {
		if l.takeAll(s) {
			return true
		}
	}
	switch l.read() {
	case '{', '}', '[', ']', '(', ')', '=', ',', '.', '+', '-', '*', '/', '%', '<', '>', '!', '?', ':':
		return true
	}
	return false
}

// parts reads a text, from its first `"` to its last.
func (l *lexer) parts() ([]api.Part, bool) {
	var parts []api.Part
	var plain []byte
	l.take('"')
	for !l.take('"') {
		if l.takeAll("${") {
			ref, ok := l.ref()
			if !ok {
				return nil, false
			}
			parts = append(withPlain(parts, plain), api.Part{Ref: true, Text: ref})
			plain = nil
			continue
		}
		b, ok := l.char()
		if !ok {
			return nil, false
		}
		plain = append(plain, b)
	}
	return withPlain(parts, plain), true
}

// withPlain leaves empty texts out: between references that touch there is no part.
func withPlain(parts []api.Part, plain []byte) []api.Part {
	if len(plain) == 0 {
		return parts
	}
	return append(parts, api.Part{Text: string(plain)})
}

// ref reads a reference from behind its `${` to its `}`.
func (l *lexer) ref() (string, bool) {
	from := l.at
	ok := l.name() && l.take('.') && l.name()
	s := l.since(from)
	return s, ok && l.take('}')
}

// char reads a byte of a text. At the end of what is read there is a 0, which may not be: so an open text is found.
func (l *lexer) char() (byte, bool) {
	if l.take('\\') {
		return l.escaped()
	}
	b := l.read()
	return b, b >= ' '
}

func (l *lexer) escaped() (byte, bool) {
	switch b := l.read(); b {
	case '"', '\\', '$':
		return b, true
	case 'n':
		return '\n', true
	}
	return 0, false
}

func letter(b byte) bool {
	return 'a' <= b && b <= 'z'
}

func digit(b byte) bool {
	return '0' <= b && b <= '9'
}

func startsName(b byte) bool {
	return letter(b) || b == '_'
}

func inName(b byte) bool {
	return startsName(b) || digit(b)
}

func inLabel(b byte) bool {
	return inName(b) || b == '-'
}

func inLine(b byte) bool {
	return b != '\n'
}
