package parse

import "escarpment/api"

// reader goes through tokens, of which the end is the last. No name and no number has the text of a key word or of a
// sign, so that those are told by their texts alone.
type reader struct {
	tokens []api.Token
	at     int // the next one's place
	deep   int // how many blocks, brackets, nots and signs are open
}

// refusal is what a reader gives up with, by panic.
type refusal struct {
	e  api.Errno
	at int
}

func (r *reader) next() api.Token { return r.tokens[r.at] }

// refuse gives up at the next token.
func (r *reader) refuse(e api.Errno) { panic(refusal{e, r.next().At}) }

// takes tells whether the next token has that text; if so, it goes on behind it.
func (r *reader) takes(text string) bool {
	if r.next().Text != text {
		return false
	}
	r.at++
	return true
}

func (r *reader) take(text string) {
	if !r.takes(text) {
		r.refuse(api.ErrForm)
	}
}

// open takes a token that is one deeper, until shut.
func (r *reader) open(text string) {
	if r.next().Text == text && r.deep == api.MaxNest {
		r.refuse(api.ErrDeep)
	}
	r.take(text)
	r.deep++
}

func (r *reader) shut() { r.deep-- }

// text takes a token of a kind, and tells what stands there.
func (r *reader) text(kind int) string {
	token := r.next()
	if token.Kind != kind {
		r.refuse(api.ErrForm)
	}
	r.at++
	return token.Text
}

func (r *reader) name() string { return r.text(api.TokName) }

// listed reads what stands in ( and ), parted by commas.
func listed[T any](r *reader, one func() T) []T {
	r.take("(")
	if r.takes(")") {
		return nil
	}
	l := []T{one()}
	for r.takes(",") {
		l = append(l, one())
	}
	r.take(")")
	return l
}
