package idl

import "transom/api"

// reader takes tokens, one behind the other; it stays at the first one that isn't right.
type reader struct {
	left  []api.Token // never empty: the end is never taken
	fault api.Fault
}

// here: the token that is next.
func (r *reader) here() api.Token { return r.left[0] }

// take: the token that is next, gone over.
func (r *reader) take() api.Token {
	t := r.here()
	if t.Kind != api.TEnd {
		r.left = r.left[1:]
	}
	return t
}

// refuse: false, and a fault at the token that is next.
func (r *reader) refuse(code api.Errno) bool {
	r.fault = api.Fault{Code: code, At: r.here().At}
	return false
}

// stands: is this token next?
func (r *reader) stands(kind api.TokenKind, text string) bool {
	t := r.here()
	return t.Kind == kind && t.Text == text
}

// skip takes this token, if it is next.
func (r *reader) skip(kind api.TokenKind, text string) bool {
	if !r.stands(kind, text) {
		return false
	}
	r.take()
	return true
}

// sign takes a sign, if it is next.
func (r *reader) sign(text string) bool { return r.skip(api.TSign, text) }

// word takes a word, if it is next: in quotes it would be none.
func (r *reader) word(text string) bool { return r.skip(api.TName, text) }

// want takes a sign, and nothing else may be next.
func (r *reader) want(sign string) bool { return r.sign(sign) || r.refuse(api.ErrParse) }

// name takes a name that isn't too long.
func (r *reader) name() (api.Token, bool) {
	if r.here().Kind != api.TName {
		return api.Token{}, r.refuse(api.ErrParse)
	}
	return r.sized()
}

// label takes a name or a quoted text that isn't too long, nor empty.
func (r *reader) label() (api.Token, bool) {
	if k := r.here().Kind; k != api.TName && k != api.TQuoted {
		return api.Token{}, r.refuse(api.ErrParse)
	}
	return r.sized()
}

// sized takes the token that is next, if it has from 1 to MaxName bytes.
func (r *reader) sized() (api.Token, bool) {
	if n := len(r.here().Text); n == 0 || n > api.MaxName {
		return api.Token{}, r.refuse(api.ErrName)
	}
	return r.take(), true
}

// value takes a name, of any length, or a number.
func (r *reader) value() (api.Token, bool) {
	if k := r.here().Kind; k != api.TName && k != api.TNumber {
		return api.Token{}, r.refuse(api.ErrParse)
	}
	return r.take(), true
}

// braced takes what stands between braces, thing by thing, by a function that reads one.
func (r *reader) braced(read func() bool) bool {
	if !r.want("{") {
		return false
	}
	for !r.sign("}") {
		if !read() {
			return false
		}
	}
	return true
}
