package lex

import (
	"regexp"
	"strings"
	"testing"

	"escarpment/api"
)

// tokensAre holds Lex of s against tokens.
func tokensAre(t *testing.T, s string, want ...api.Token) {
	t.Helper()
	got, e, at := Lex(s)
	if e != api.OK || at != 0 || !same(got, want) {
		t.Errorf("7.1: Lex of %.60q: %v %v %v, want %v", s, got, e, at, want)
	}
}

// isRefused holds Lex of s against an error and its place; no tokens may stand beside them.
func isRefused(t *testing.T, s string, want api.Errno, place int) {
	t.Helper()
	if got, e, at := Lex(s); e != want || at != place || got != nil {
		t.Errorf("7.1: Lex of %.60q (%d bytes): %v %v at %v, want %v at %v", s, len(s), got, e, at, want, place)
	}
}

func same(a, b []api.Token) bool {
	if len(a) != len(b) {
		return false
	}
	for i := range a {
		if a[i] != b[i] {
			return false
		}
	}
	return true
}

func name(s string, at int) api.Token   { return api.Token{Kind: api.TokName, Text: s, At: at} }
func digits(s string, at int) api.Token { return api.Token{Kind: api.TokNum, Text: s, At: at} }
func key(s string, at int) api.Token    { return api.Token{Kind: api.TokWord, Text: s, At: at} }
func mark(s string, at int) api.Token   { return api.Token{Kind: api.TokSign, Text: s, At: at} }
func end(at int) api.Token              { return api.Token{Kind: api.TokEnd, At: at} }

// keys are the key words, signs the signs, as the document has them.
func keys() []string {
	return strings.Fields("proc var havoc assume assert if else while either or and not true false skip")
}

func signs() []string {
	return strings.Fields("( ) { } [ ] , ; = == != < <= > >= + - * / % ->")
}

// The same in patterns: each at the beginning of what is left. The longer signs stand ahead of those that begin them.
var (
	gapHere    = regexp.MustCompile(`^(?:[ \t\n\r]|#[^\n]*)*`)
	keyHere    = regexp.MustCompile(`^(?:proc|var|havoc|assume|assert|if|else|while|either|or|and|not|true|false|skip)$`)
	wordHere   = regexp.MustCompile(`^[a-z][a-z0-9_]*`)
	digitsHere = regexp.MustCompile(`^[0-9]+`)
	numberHere = regexp.MustCompile(`^(?:0|[1-9][0-9]*)(?:[^a-z0-9_]|$)`)
	signHere   = regexp.MustCompile(`^(?:==|!=|<=|>=|->|[-(){}\[\],;=<>+*/%])`)
)

// byPatterns tells what Lex has to tell of s.
func byPatterns(s string) ([]api.Token, api.Errno, int) {
	if len(s) > 8192 {
		return nil, api.ErrLong, 8192
	}
	var l []api.Token
	at := 0
	for {
		at += len(gapHere.FindString(s[at:]))
		if at == len(s) {
			return append(l, end(at)), api.OK, 0
		}
		token, e := byPattern(s[at:])
		if e != api.OK {
			return nil, e, at
		}
		token.At = at
		l = append(l, token)
		at += len(token.Text)
	}
}

func byPattern(s string) (api.Token, api.Errno) {
	if w := wordHere.FindString(s); w != "" {
		switch {
		case keyHere.MatchString(w):
			return key(w, 0), api.OK
		case len(w) > 16:
			return api.Token{}, api.ErrLong
		}
		return name(w, 0), api.OK
	}
	if d := digitsHere.FindString(s); d != "" {
		switch {
		case len(d) > 9:
			return api.Token{}, api.ErrLong
		case !numberHere.MatchString(s):
			return api.Token{}, api.ErrWord
		}
		return digits(d, 0), api.OK
	}
	if m := signHere.FindString(s); m != "" {
		return mark(m, 0), api.OK
	}
	return api.Token{}, api.ErrWord
}

// expectAsByPatterns holds Lex of s against the patterns.
func expectAsByPatterns(t *testing.T, s string) {
	t.Helper()
	want, e, at := byPatterns(s)
	if e != api.OK {
		isRefused(t, s, e, at)
		return
	}
	tokensAre(t, s, want...)
}
