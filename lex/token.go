package lex

import "escarpment/api"

// first tells the kind of the token that s begins with, and how many bytes it has.
func first(s string) (int, int, api.Errno) {
	switch {
	case s == "":
		return api.TokEnd, 0, api.OK
	case isLetter(s[0]):
		return word(s)
	case isDigit(s[0]):
		return number(s)
	}
	return sign(s)
}

func word(s string) (int, int, api.Errno) {
	n := run(s, isOfWord)
	switch {
	case isKey(s[:n]):
		return api.TokWord, n, api.OK
	case n > api.MaxName:
		return 0, 0, api.ErrLong
	}
	return api.TokName, n, api.OK
}

func number(s string) (int, int, api.Errno) {
	n := run(s, isDigit)
	switch {
	case n > api.MaxDigit:
		return 0, 0, api.ErrLong
	case n > 1 && s[0] == '0', n < len(s) && isOfWord(s[n]):
		return 0, 0, api.ErrWord
	}
	return api.TokNum, n, api.OK
}

// sign looks for two bytes first: some of the signs that have one byte begin those.
func sign(s string) (int, int, api.Errno) {
	switch s[:min(2, len(s))] {
	case "==", "!=", "<=", ">=", "->":
		return api.TokSign, 2, api.OK
	}
	switch s[0] {
	case '(', ')', '{', '}', '[', ']', ',', ';', '=', '<', '>', '+', '-', '*', '/', '%':
		return api.TokSign, 1, api.OK
	}
	return 0, 0, api.ErrWord
}

// run tells how many bytes at s's beginning are all of a kind.
func run(s string, isOfKind func(byte) bool) int {
	for i := range len(s) {
		if !isOfKind(s[i]) {
			return i
		}
	}
	return len(s)
}

func isLetter(c byte) bool { return 'a' <= c && c <= 'z' }

func isDigit(c byte) bool { return '0' <= c && c <= '9' }

func isOfWord(c byte) bool { return isLetter(c) || isDigit(c) || c == '_' }

func isKey(s string) bool {
	switch s {
	case "proc", "var", "havoc", "assume", "assert", "if", "else", "while", "either", "or", "and", "not", "true", "false", "skip":
		return true
	}
	return false
}
