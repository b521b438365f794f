package parse

import (
	"reflect"
	"strings"
	"sync"
	"testing"
	"unsafe"

	"escarpment/api"
)

func sources() []string {
	return []string{
		"", "?", "proc", "proc m(){x=1 2;}", "proc m ( ) { x = 1 + 2 ; }", "proc m(){}proc m(){}", "proc m(){" + strings.Repeat("if*{", 51),
		"proc f(a,b,c)->r{var v;var w;var z;r=-a*(b+1)%2/3;f(1,2-a,c);x=f();if not[a<b or*]and true{skip;skip;skip;}else{while a>=1{x=f(b);}}either{havoc a;}or{assume a==b;assert a!=b+1;}}proc m(){if*{}if a>b{}x=y;}",
		"proc m(){x=" + strings.Repeat("1+", 1000) + "1;}", "proc m(){" + strings.Repeat("f(1,1);", 500) + "}", "proc m(" + strings.Repeat("a,", 1000) + "a){}", strings.Repeat("proc m(){}", 800), strings.Repeat(" ", 9000),
	}
}

// stretch is a piece of memory: where it begins, and where it ends.
type stretch struct{ begin, end uintptr }

// lists tells the memory of each list of v, spare room too.
func lists(v reflect.Value, l []stretch) []stretch {
	switch v.Kind() {
	case reflect.Struct:
		for i := range v.NumField() {
			l = lists(v.Field(i), l)
		}
	case reflect.Slice:
		if v.Cap() > 0 {
			l = append(l, stretch{v.Pointer(), v.Pointer() + uintptr(v.Cap())*v.Type().Elem().Size()})
		}
		for i := range v.Len() {
			l = lists(v.Index(i), l)
		}
	}
	return l
}

// TestNoListsShare: R3: no two lists of an answer, or of two answers, share memory.
func TestNoListsShare(t *testing.T) {
	for _, s := range sources() {
		p, _, _ := Prog(s)
		q, _, _ := Prog(s)
		all := lists(reflect.ValueOf(q), lists(reflect.ValueOf(p), nil))
		for i, a := range all {
			for _, b := range all[:i] {
				if a.begin < b.end && b.begin < a.end {
					t.Fatalf("R3: two lists of Prog of %s share memory", brief(s))
				}
			}
		}
	}
}

// spoil writes into all of v's lists.
func spoil(v reflect.Value) {
	switch v.Kind() {
	case reflect.Struct:
		for i := range v.NumField() {
			spoil(v.Field(i))
		}
	case reflect.Slice:
		all := v.Slice3(0, v.Cap(), v.Cap())
		for i := range all.Len() {
			spoil(all.Index(i))
		}
	case reflect.Int:
		v.SetInt(77)
	case reflect.String:
		v.SetString("spoilt")
	}
}

// TestNewMemory: R3, R5: whoever writes into an answer, its spare room too, changes nothing that is told next.
func TestNewMemory(t *testing.T) {
	for _, s := range sources() {
		p, e, at := Prog(s)
		other, _, _ := Prog(s)
		before := told(p)
		spoil(reflect.ValueOf(&p).Elem())
		if told(other) != before {
			t.Errorf("R3: two answers of %s share memory", brief(s))
		}
		if again, f, place := Prog(s); told(again) != before || f != e || place != at {
			t.Errorf("R5: Prog of %s tells another", brief(s))
		}
	}
}

// textsOf tells the texts of v.
func textsOf(v reflect.Value, l []string) []string {
	switch v.Kind() {
	case reflect.Struct:
		for i := range v.NumField() {
			l = textsOf(v.Field(i), l)
		}
	case reflect.Slice:
		for i := range v.Len() {
			l = textsOf(v.Index(i), l)
		}
	case reflect.String:
		l = append(l, v.String())
	}
	return l
}

// TestNothingIsKept: R3: no name of a program is a piece of the source.
func TestNothingIsKept(t *testing.T) {
	for _, s := range sources() {
		begin := uintptr(unsafe.Pointer(unsafe.StringData(s)))
		p, _, _ := Prog(s)
		for _, text := range textsOf(reflect.ValueOf(p), nil) {
			at := uintptr(unsafe.Pointer(unsafe.StringData(text)))
			if text != "" && begin <= at && at < begin+uintptr(len(s)) {
				t.Fatalf("R3: %s of Prog of %s is a piece of it", text, brief(s))
			}
		}
	}
}

// TestAtOnce: R1: calls that run at the same time tell what each tells alone.
func TestAtOnce(t *testing.T) {
	var all sync.WaitGroup
	for _, s := range sources() {
		want, e, at := Prog(s)
		for range 8 {
			all.Go(func() {
				if got, f, place := Prog(s); told(got) != told(want) || f != e || place != at {
					t.Errorf("R1: Prog of %s at once with others: %v %v", brief(s), f, place)
				}
			})
		}
	}
	all.Wait()
}

// TestAnyBytes: R1: each call ends, and none panics, whatever stands in the text.
func TestAnyBytes(t *testing.T) {
	s := sources()[7]
	for i := range len(s) {
		for _, c := range []byte{0, ' ', '#', '(', '}', '-', '0', 'a', 'Z', 0x80, 0xff} {
			p, e, _ := Prog(s[:i] + string(c) + s[i+1:])
			if q, f, _ := Prog(s[:i] + string([]byte{c}) + s[i:]); e != api.OK && told(p) != told(api.Prog{}) || f != api.OK && told(q) != told(api.Prog{}) {
				t.Errorf("R4: a program beside an error, byte %d at %d", c, i)
			}
		}
	}
}
