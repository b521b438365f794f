package rat

import (
	"strconv"
	"strings"

	"escarpment/api"
	"escarpment/num"
)

// maxRead is how many bytes Read takes.
const maxRead = 10001

// A long whole number is read in pieces that fit an int64: of pieceLen digits, of which a full one is below pieceBase.
const (
	pieceLen  = 18
	pieceBase = 1_000_000_000_000_000_000
)

// Text tells a in decimal digits, with its denominator behind a '/' unless that is 1.
func Text(a api.Rat) string {
	a = counted(a)
	if isOne(a.Q) {
		return num.Text(a.P)
	}
	return num.Text(a.P) + "/" + num.Text(a.Q)
}

// Read tells the quotient of which Text tells just s.
func Read(s string) (api.Rat, api.Errno) {
	if len(s) > maxRead {
		return api.Rat{}, api.ErrLong
	}
	above, below, isCut := strings.Cut(s, "/")
	if !isCut {
		below = "1"
	}
	p, isP := whole(above)
	q, isQ := whole(below)
	if !isP || !isQ {
		return api.Rat{}, api.ErrForm
	}
	a, e := Quo(p, q)
	if e != api.OK {
		return api.Rat{}, e
	}
	if Text(a) != s {
		return api.Rat{}, api.ErrForm
	}
	return a, api.OK
}

// whole tells the whole number of which num.Text tells just s, if there is one. num.Read takes no text as long as those
// that stand here.
func whole(s string) (api.Int, bool) {
	digits, isNeg := strings.CutPrefix(s, "-")
	n := fold(pieces(digits), api.Int{}, withPiece)
	if isNeg {
		n = num.Neg(n)
	}
	// This tells also where s has anything but digits, or noughts ahead: no number's text does.
	return n, num.Text(n) == s
}

// pieces cuts digits into pieces of pieceLen, the first one of what is left over (it may be empty).
func pieces(digits string) []string {
	at := len(digits) % pieceLen
	l := []string{digits[:at]}
	for ; at < len(digits); at += pieceLen {
		l = append(l, digits[at:at+pieceLen])
	}
	return l
}

// withPiece tells the number whose digits are n's with a piece behind them; a piece that is no number counts as noughts.
func withPiece(n api.Int, piece string) api.Int {
	value, _ := strconv.ParseInt(piece, 10, 64)
	return num.Add(num.Mul(n, num.Of(pieceBase)), num.Of(value))
}
