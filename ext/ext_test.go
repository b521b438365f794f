package ext

import (
	"cmp"
	"fmt"
	"math/rand"
	"testing"

	"escarpment/api"
	"escarpment/num"
	"escarpment/rat"
)

// 3.1

func TestMay(t *testing.T) {
	may := append(rising(), noughts()...)
	may = append(append(may, ends(-1)...), ends(1)...)
	for _, a := range may {
		if !May(a) {
			t.Error("3.1: may be:", a)
		}
	}
	for _, a := range wrong() {
		if May(a) {
			t.Error("3.1: may not be:", a)
		}
	}
}

// TestMayByHand: beside an end a nought by 1 is one too many, though it is nought.
func TestMayByHand(t *testing.T) {
	for _, c := range []struct {
		a    api.Ext
		want bool
	}{
		{api.Ext{}, true}, {low, true}, {high, true}, {of(0, 1), true}, {of(1, 2), true}, {of(-7, 1), true},
		{api.Ext{Kind: 2}, false}, {api.Ext{Kind: -2}, false}, {api.Ext{Kind: 2, V: rat.Of(1)}, false},
		{api.Ext{Kind: 1, V: rat.Of(0)}, false}, {api.Ext{Kind: -1, V: rat.Of(0)}, false},
		{api.Ext{Kind: 1, V: rat.Of(3)}, false}, {api.Ext{Kind: -1, V: quo(1, 2)}, false},
		{api.Ext{Kind: 1, V: api.Rat{P: api.Int{Neg: true}}}, false}, {api.Ext{V: api.Rat{P: num.Of(2)}}, false},
		{api.Ext{V: api.Rat{P: num.Of(2), Q: num.Of(4)}}, false}, {api.Ext{V: api.Rat{Q: num.Of(-1)}}, false},
	} {
		if May(c.a) != c.want {
			t.Error("3.1: May", c.a, "want", c.want)
		}
	}
}

func TestOf(t *testing.T) {
	for _, a := range quotients() {
		expect(t, "3.1: Of", Of(a), api.Ext{V: a})
	}
	for _, a := range append(bareRats(), wrongRats()...) {
		expect(t, "3.1: Of what counts as nought", Of(a), of(0, 1))
	}
}

// TestOrder goes through all pairs of what rises; where two stand at one place they are alike.
func TestOrder(t *testing.T) {
	l := rising()
	for i, a := range l {
		for k, b := range l {
			if got := Cmp(a, b); got != cmp.Compare(i, k) {
				t.Error("3.1: Cmp", a, b, got)
			}
			expect(t, "3.1: Max", Max(a, b), l[max(i, k)])
			expect(t, "3.1: Min", Min(a, b), l[min(i, k)])
		}
	}
}

func TestOrderOfQuotientsIsTheirs(t *testing.T) {
	r := rand.New(rand.NewSource(31))
	for i := range 4000 {
		a, b := random(r, 2+i%120), random(r, 2+i%120)
		if got, want := Cmp(Of(a), Of(b)), rat.Cmp(a, b); got != want {
			t.Error("3.1: Cmp", a, b, got, "want", want)
		}
	}
}

// TestEndsBesideAll: each form of an end beside all else, the other end and itself among it.
func TestEndsBesideAll(t *testing.T) {
	others := append(append(rising(), noughts()...), wrong()...)
	for i := range bareRats() {
		below, above := ends(-1)[i], ends(1)[i]
		for _, a := range others {
			isLow, isHigh := May(a) && a.Kind == -1, May(a) && a.Kind == 1
			if Cmp(below, a) == 0 != isLow || Cmp(below, a) > 0 || Cmp(a, below) != -Cmp(below, a) {
				t.Error("3.1: Cmp of the low end", a, Cmp(below, a), Cmp(a, below))
			}
			if Cmp(above, a) == 0 != isHigh || Cmp(above, a) < 0 || Cmp(a, above) != -Cmp(above, a) {
				t.Error("3.1: Cmp of the high end", a, Cmp(above, a), Cmp(a, above))
			}
			expect(t, "3.1: Min with the low end", Min(a, below), low)
			expect(t, "3.1: Min of the low end", Min(below, a), low)
			expect(t, "3.1: Max with the high end", Max(a, above), high)
			expect(t, "3.1: Max of the high end", Max(above, a), high)
		}
	}
}

// TestAlike: two that are alike tell what each of them tells, in its one form.
func TestAlike(t *testing.T) {
	for _, alike := range [][]api.Ext{noughts(), ends(-1), ends(1), {of(1, 2), of(1, 2)}, {of(-9, 1), of(-9, 1)}} {
		for _, a := range alike {
			for _, b := range alike {
				if Cmp(a, b) != 0 {
					t.Error("3.1: Cmp of alike", a, b)
				}
				expect(t, "3.1: Max of alike", Max(a, b), form(a))
				expect(t, "3.1: Min of alike", Min(a, b), form(a))
			}
		}
	}
}

// TestCountsAsNought: what may not be, and each form of nought, tells what nought tells, on either side.
func TestCountsAsNought(t *testing.T) {
	nought := of(0, 1)
	beside := append(rising(), api.Ext{}, api.Ext{Kind: 2}, api.Ext{Kind: 1, V: rat.Of(9)}, of(7, 1))
	for _, bad := range append(wrong(), noughts()...) {
		if Text(bad) != "0" || Cmp(bad, nought) != 0 || Cmp(nought, bad) != 0 {
			t.Error("3.1: Text, Cmp of what counts as nought", bad)
		}
		expect(t, "3.1: Add to what counts as nought", Add(bad, quo(5, 3)), of(5, 3))
		expect(t, "3.1: Add nought to what counts as it", Add(bad, api.Rat{}), nought)
		for _, a := range beside {
			noughtBeside(t, bad, a)
		}
	}
}

func noughtBeside(t *testing.T, bad, a api.Ext) {
	t.Helper()
	nought := of(0, 1)
	if Cmp(bad, a) != Cmp(nought, a) || Cmp(a, bad) != Cmp(a, nought) {
		t.Error("3.1: Cmp", bad, a)
	}
	expect(t, "3.1: Max", Max(bad, a), Max(nought, a))
	expect(t, "3.1: Max", Max(a, bad), Max(a, nought))
	expect(t, "3.1: Min", Min(bad, a), Min(nought, a))
	expect(t, "3.1: Min", Min(a, bad), Min(a, nought))
}

func TestAdd(t *testing.T) {
	for _, a := range quotients() {
		for _, b := range quotients() {
			expect(t, "3.1: Add", Add(api.Ext{V: a}, b), api.Ext{V: rat.Add(a, b)})
		}
	}
	for _, c := range []struct{ a, b, want string }{
		{"1/2", "1/2", "1"}, {"1/2", "-1/2", "0"}, {"-3", "1/2", "-5/2"}, {"0", "0", "0"}, {"0", "-7/3", "-7/3"},
	} {
		a, _ := rat.Read(c.a)
		b, _ := rat.Read(c.b)
		if got := Text(Add(Of(a), b)); got != c.want {
			t.Error("3.1: Add", c, got)
		}
	}
}

func TestAddToEnds(t *testing.T) {
	for _, b := range append(append(quotients(), bareRats()...), wrongRats()...) {
		for i := range bareRats() {
			expect(t, "3.1: Add to the low end", Add(ends(-1)[i], b), low)
			expect(t, "3.1: Add to the high end", Add(ends(1)[i], b), high)
		}
	}
}

// TestAddOfWrong: a quotient that may not be adds nothing (2.1).
func TestAddOfWrong(t *testing.T) {
	for _, b := range append(wrongRats(), bareRats()...) {
		for _, a := range rising() {
			expect(t, "3.1: Add of what counts as nought", Add(a, b), a)
		}
	}
}

func TestText(t *testing.T) {
	for i := range bareRats() {
		if got := Text(ends(-1)[i]); got != "-inf" {
			t.Error("3.1: Text of the low end", got)
		}
		if got := Text(ends(1)[i]); got != "inf" {
			t.Error("3.1: Text of the high end", got)
		}
	}
	for _, a := range quotients() {
		if got := Text(api.Ext{V: a}); got != rat.Text(a) {
			t.Error("3.1: Text", a, got)
		}
	}
	for _, c := range []struct {
		a    api.Ext
		want string
	}{{api.Ext{}, "0"}, {of(0, 1), "0"}, {of(1, 2), "1/2"}, {of(-5, 2), "-5/2"}, {of(41, 1), "41"}, {of(-1, 1), "-1"}, {of(1, 1), "1"}} {
		if got := Text(c.a); got != c.want {
			t.Error("3.1: Text", c.a, got, "want", c.want)
		}
	}
}

func TestExample(t *testing.T) {
	expect(t, "3.1: Max of -inf and 1/2", Max(low, of(1, 2)), of(1, 2))
}

// 3.2

func TestIsOrder(t *testing.T) {
	r := rand.New(rand.NewSource(32))
	for i := range 6000 {
		bits := 2 + i%40
		a, b, c := randomExt(r, bits), randomExt(r, bits), randomExt(r, bits)
		if Cmp(a, a) != 0 || Cmp(a, b) != -Cmp(b, a) {
			t.Error("3.2: Cmp turned", a, b)
		}
		if Cmp(a, b) == 0 && fmt.Sprint(form(a)) != fmt.Sprint(form(b)) {
			t.Error("3.2: alike, but not one", a, b)
		}
		if Cmp(a, b) <= 0 && Cmp(b, c) <= 0 && Cmp(a, c) > 0 {
			t.Error("3.2: Cmp of three", a, b, c)
		}
	}
}

// TestMaxAndMinAreBounds: of both, and the least and the greatest such.
func TestMaxAndMinAreBounds(t *testing.T) {
	r := rand.New(rand.NewSource(33))
	for i := range 6000 {
		bits := 2 + i%40
		a, b, c := randomExt(r, bits), randomExt(r, bits), randomExt(r, bits)
		most, least := Max(a, b), Min(a, b)
		if Cmp(a, most) > 0 || Cmp(b, most) > 0 || Cmp(least, a) > 0 || Cmp(least, b) > 0 {
			t.Error("3.2: no bounds", a, b, most, least)
		}
		if (Cmp(a, c) <= 0 && Cmp(b, c) <= 0) != (Cmp(most, c) <= 0) {
			t.Error("3.2: Max is not the least bound", a, b, c, most)
		}
		if (Cmp(c, a) <= 0 && Cmp(c, b) <= 0) != (Cmp(c, least) <= 0) {
			t.Error("3.2: Min is not the greatest bound", a, b, c, least)
		}
	}
}

func TestAddKeepsOrder(t *testing.T) {
	r := rand.New(rand.NewSource(34))
	for i := range 6000 {
		bits := 2 + i%40
		a, b, c := randomExt(r, bits), randomExt(r, bits), random(r, bits)
		if Cmp(Add(a, c), Add(b, c)) != Cmp(a, b) {
			t.Error("3.2: Add", a, b, c)
		}
		expect(t, "3.2: Add to Max", Add(Max(a, b), c), Max(Add(a, c), Add(b, c)))
		expect(t, "3.2: Add to Min", Add(Min(a, b), c), Min(Add(a, c), Add(b, c)))
	}
}
