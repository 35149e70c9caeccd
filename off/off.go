// Package off reckons with places exactly: what can't be a place is told, and nothing wraps round.
package off

import (
	"salvor/api"
)

// May tells whether n is a place: 0 to api.MaxOff.
func May(n int) bool { return n >= 0 && n <= api.MaxOff }

// Add is the sum of all numbers, of none 0; false, if one of them or the sum is not May.
func Add(l ...int) (int, bool) {
	sum := 0
	for _, n := range l {
		// Asking for the room that is left, not for the sum: twice MaxOff would wrap round.
		if !May(n) || n > api.MaxOff-sum {
			return 0, false
		}
		sum += n
	}
	return sum, true
}

// Mul is the product of all numbers, of none 1; false, if one of them or the product is not May.
func Mul(l ...int) (int, bool) {
	zero, ok := anyZero(l)
	if !ok {
		return 0, false
	}
	// A 0 behind great factors makes all of it 0, so it is looked for ahead of reckoning.
	if zero {
		return 0, true
	}
	product := 1
	for _, n := range l {
		if n > api.MaxOff/product {
			return 0, false
		}
		product *= n
	}
	return product, true
}

// anyZero tells whether there is a 0 among the numbers, and whether all of them are May.
func anyZero(l []int) (zero, ok bool) {
	for _, n := range l {
		if !May(n) {
			return false, false
		}
		if n == 0 {
			zero = true
		}
	}
	return zero, true
}

// Down is the greatest multiple of unit that is not above n; 0, if n is not May or unit is below 1.
func Down(n, unit int) int {
	if !May(n) || unit < 1 {
		return 0
	}
	return n - n%unit
}

// Up is the least multiple of unit that is not below n; false, if n or the multiple is not May, or unit is below 1.
func Up(n, unit int) (int, bool) {
	if !May(n) || unit < 1 {
		return 0, false
	}
	over := n % unit
	if over == 0 {
		return n, true
	}
	return Add(n, unit-over)
}

// MaySpan tells whether s's place, its length and its end are all May.
func MaySpan(s api.Span) bool {
	_, ok := Add(s.Pos, s.Len)
	return ok
}

// Meet is the places that lie in both spans; zero, if there are none, or one is not MaySpan.
func Meet(a, b api.Span) api.Span {
	if !MaySpan(a) || !MaySpan(b) {
		return api.Span{}
	}
	from := max(a.Pos, b.Pos)
	end := min(a.Pos+a.Len, b.Pos+b.Len)
	if from >= end {
		return api.Span{}
	}
	return api.Span{Pos: from, Len: end - from}
}

// Within tells whether both are MaySpan, and each place of a lies in b.
func Within(a, b api.Span) bool {
	if !MaySpan(a) || !MaySpan(b) {
		return false
	}
	// A span without places has none that could lie elsewhere, wherever it stands.
	return a.Len == 0 || Meet(a, b) == a
}

// Parts is s, cut at all multiples of unit; none, if s is not MaySpan, its Len is above api.MaxIO, or unit is below 1.
func Parts(s api.Span, unit int) []api.Span {
	if !MaySpan(s) || s.Len > api.MaxIO || unit < 1 {
		return nil
	}
	var parts []api.Span
	for s.Len > 0 {
		n := min(unit-s.Pos%unit, s.Len)
		parts = append(parts, api.Span{Pos: s.Pos, Len: n})
		s.Pos += n
		s.Len -= n
	}
	return parts
}
