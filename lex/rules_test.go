package lex

import (
	"slices"
	"strings"
	"sync"
	"testing"
	"unsafe"

	"escarpment/api"
)

func texts() []string {
	return []string{"", "x", "x=1;", "proc m ( ) { x = 1 + 2 ; }", "# remark", " \n\t", "<==>", "?", "01", "x abcdefghijklmnopq", strings.Repeat("x ", 4096), strings.Repeat(" ", 8193)}
}

// TestNewMemory: R3, R5: whoever writes into an answer, its spare room too, changes nothing that is told next.
func TestNewMemory(t *testing.T) {
	for _, s := range texts() {
		tokens, e, at := Lex(s)
		before := slices.Clone(tokens)
		other, _, _ := Lex(s)
		all := tokens[:cap(tokens)]
		for i := range all {
			all[i] = api.Token{Kind: 77, Text: "spoilt", At: -1}
		}
		if !same(other, before) {
			t.Errorf("R3: two answers of %.20q share memory", s)
		}
		again, f, place := Lex(s)
		if !same(again, before) || e != f || at != place {
			t.Errorf("R5: Lex of %.20q tells another", s)
		}
	}
}

// TestNothingIsKept: R3: no token's text is a piece of the source.
func TestNothingIsKept(t *testing.T) {
	for _, s := range texts() {
		begin := uintptr(unsafe.Pointer(unsafe.StringData(s)))
		tokens, _, _ := Lex(s)
		for _, token := range tokens {
			at := uintptr(unsafe.Pointer(unsafe.StringData(token.Text)))
			if token.Text != "" && begin <= at && at < begin+uintptr(len(s)) {
				t.Fatalf("R3: %v of %.20q is a piece of it", token, s)
			}
		}
	}
}

// TestAtOnce: R1: calls that run at the same time tell what each tells alone.
func TestAtOnce(t *testing.T) {
	var all sync.WaitGroup
	for _, s := range texts() {
		want, e, at := Lex(s)
		for range 8 {
			all.Go(func() {
				if got, f, place := Lex(s); !same(got, want) || f != e || place != at {
					t.Errorf("R1: Lex of %.20q at once with others: %v %v", s, f, place)
				}
			})
		}
	}
	all.Wait()
}
