package parse

import "doorkeeper/api"

// tokenReader goes through tokens. A fault is kept, and the reader goes to the end of all: nothing that is read stands
// there, so whoever reads on comes to an end by itself, and what it does not find any more changes nothing.
type tokenReader struct {
	tokens []api.Token // the last one is the end
	at     int
	fault  api.Errno // the first one
}

func (r *tokenReader) peek() api.Token {
	return r.tokens[r.at]
}

func (r *tokenReader) fail(e api.Errno) {
	if r.fault == api.OK {
		r.fault = e
	}
	r.at = len(r.tokens) - 1
}

// sees tells whether that sign stands here. No token of another kind has a sign as its Text.
func (r *tokenReader) sees(sign string) bool {
	return r.peek().Text == sign
}

// take goes over that sign, if it stands here.
func (r *tokenReader) take(sign string) bool {
	if !r.sees(sign) {
		return false
	}
	r.at++
	return true
}

// need goes over that sign: nothing else may stand here.
func (r *tokenReader) need(sign string) {
	if !r.take(sign) {
		r.fail(api.ErrForm)
	}
}

// needName goes over a name.
func (r *tokenReader) needName() string {
	t := r.peek()
	if t.Kind != api.TokName {
		r.fail(api.ErrForm)
		return ""
	}
	r.at++
	return t.Text
}

// end tells the fault of all that was read, behind which nothing may stand.
func (r *tokenReader) end() api.Errno {
	if r.peek().Kind != api.TokEnd {
		r.fail(api.ErrForm)
	}
	return r.fault
}
