package show

import (
	"reflect"
	"slices"
	"strings"
	"sync"
	"testing"
	"unsafe"

	"escarpment/api"
)

// mixed are programs of all sorts: right, too long, wrong.
func mixed() []api.Prog {
	l := []api.Prog{{}, procs(api.Proc{}), body(api.Stmt{}), setTo(), setTo(leaf(99)), longest(api.MaxText), longest(api.MaxText + 1), procs(api.Proc{Name: "abcdefghijklmnop"})}
	for _, s := range samples() {
		l = append(l, parsed(s))
	}
	return l
}

// TestNothingIsChanged: R3, of spare room, too.
func TestNothingIsChanged(t *testing.T) {
	for _, s := range samples() {
		p := parsed(s)
		roomy(reflect.ValueOf(&p).Elem())
		before := whole(p)
		Right(p)
		Print(p)
		Same(p, p)
		Same(p, api.Prog{})
		if whole(p) != before {
			t.Errorf("R3: a call changes what is handed in: %s", s)
		}
	}
}

// roomy gives each list spare room that is not zero.
func roomy(v reflect.Value) {
	switch v.Kind() {
	case reflect.Struct:
		for i := range v.NumField() {
			roomy(v.Field(i))
		}
	case reflect.Slice:
		for i := range v.Len() {
			roomy(v.Index(i))
		}
		if v.Len() > 0 {
			n := v.Len()
			v.Set(reflect.AppendSlice(v.Slice3(0, n, n), v).Slice(0, n))
		}
	}
}

// whole is what told tells, with the procedures' and their statements' spare room.
func whole(p api.Prog) string {
	s := told(p)
	for _, proc := range p.Procs[:cap(p.Procs)] {
		s += told(proc) + told(proc.Body[:cap(proc.Body)]) + told(proc.Params[:cap(proc.Params)]) + told(proc.Vars[:cap(proc.Vars)])
		for _, stmt := range proc.Body {
			s += told(stmt.E[:cap(stmt.E)]) + told(stmt.Args[:cap(stmt.Args)]) + told(stmt.Body[:cap(stmt.Body)]) + told(stmt.Else[:cap(stmt.Else)])
		}
	}
	return s
}

// TestNothingIsKept: R3: the text shares no memory with a name that was handed in.
func TestNothingIsKept(t *testing.T) {
	for _, p := range mixed() {
		s, _ := Print(p)
		begin := uintptr(unsafe.Pointer(unsafe.StringData(s)))
		for _, spot := range spots(reflect.ValueOf(&p)) {
			if spot.Kind() != reflect.String || spot.Len() == 0 {
				continue
			}
			at := uintptr(unsafe.Pointer(unsafe.StringData(spot.String())))
			if begin <= at && at < begin+uintptr(len(s)) {
				t.Fatalf("R3: %s shares memory with a name", brief(s))
			}
		}
	}
}

// TestTheSameAgain: R5, and R1: calls that run at the same time tell what each tells alone.
func TestTheSameAgain(t *testing.T) {
	var wait sync.WaitGroup
	all := mixed()
	for i, p := range all {
		right := Right(p)
		s, e := Print(p)
		for range 8 {
			wait.Go(func() {
				again, f := Print(p)
				if Right(p) != right || again != s || f != e || !Same(p, p) || Same(p, all[(i+1)%len(all)]) {
					t.Errorf("R5: of %s another is told", brief(told(p)))
				}
			})
		}
	}
	wait.Wait()
}

// TestAsDeepAsMayBe: R1: what is nested far too deep ends, and is told as wrong.
func TestAsDeepAsMayBe(t *testing.T) {
	const deep = 1<<16 - 2
	for _, wrap := range around() {
		s := api.Stmt{Kind: api.SSkip}
		other := api.Stmt{Kind: api.SHavoc, Name: "x"}
		for range deep {
			s, other = wrap(s), wrap(other)
		}
		hugeIsWrong(t, body(s))
		if !Same(body(s), body(s)) || Same(body(s), body(other)) {
			t.Error("9.2: of what is nested deep")
		}
	}
	for _, n := range append(expressions(), conditions()...) {
		l := n.times(1 << 16)
		hugeIsWrong(t, setTo(l...))
		hugeIsWrong(t, assuming(l...))
		hugeIsWrong(t, passing(l))
		if !Same(setTo(l...), setTo(l...)) || Same(setTo(l...), setTo(l[1:]...)) {
			t.Error("9.2: of a long list")
		}
	}
	many := make([]api.Node, 100000)
	for i := range many {
		many[i] = number(i)
	}
	hugeIsWrong(t, setTo(many...))
	hugeIsWrong(t, setTo(variable(strings.Repeat("a", 1<<24))))
	hugeIsWrong(t, setTo(variable(strings.Repeat("a ", 1<<20))))
}

// hugeIsWrong is isWrong, but that it shows nothing of what is too great to be shown.
func hugeIsWrong(t *testing.T, p api.Prog) {
	t.Helper()
	if s, e := Print(p); Right(p) || e != api.ErrArg || s != "" {
		t.Error("9.1: Right, or Print, of what is wrong:", Right(p), e, len(s))
	}
}

// TestWide: R1: a tree that is wide and not deep.
func TestWide(t *testing.T) {
	l := []api.Node{number(1)}
	for range 16 {
		// The tree so far, twice, and their sum.
		root := len(l) - 1
		l = append(l, shifted(slices.Clone(l), len(l))...)
		l = append(l, between(api.NAdd, root, len(l)-1))
	}
	if !Right(setTo(l...)) {
		t.Error("9.1: Right of a sum of 2^16 numbers")
	}
	isLong(t, setTo(l...))
}
