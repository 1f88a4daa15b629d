package lex

import "strings"

// reader goes through the bytes of a text. No token begins with a byte 0, and none goes on with one: so a 0 stands for
// the end, too, and nobody who looks for a certain byte needs to ask for the end first.
type reader struct {
	text string
	at   int
}

func (r *reader) done() bool {
	return r.at >= len(r.text)
}

func (r *reader) peek() byte {
	if r.done() {
		return 0
	}
	return r.text[r.at]
}

func (r *reader) read() byte {
	b := r.peek()
	if !r.done() {
		r.at++
	}
	return b
}

// take goes over b, if it stands here.
func (r *reader) take(b byte) bool {
	if r.done() || r.text[r.at] != b {
		return false
	}
	r.at++
	return true
}

// takeAll goes over s, if all of it stands here.
func (r *reader) takeAll(s string) bool {
	if !strings.HasPrefix(r.text[r.at:], s) {
		return false
	}
	r.at += len(s)
	return true
}

// pass goes over bytes as long as each is one of those.
func (r *reader) pass(those func(b byte) bool) {
	for !r.done() && those(r.text[r.at]) {
		r.at++
	}
}

// since tells what was gone over behind from. It is a copy: a token that is kept must not keep the whole text.
func (r *reader) since(from int) string {
	return strings.Clone(r.text[from:r.at])
}
