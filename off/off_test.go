package off_test

import (
	"math"
	"math/big"
	"slices"
	"testing"

	"salvor/api"
	"salvor/off"
)

// edges are the numbers at which answers turn: around 0, around the limits, around powers whose products meet MaxOff, and the type's ends.
func edges() []int {
	return []int{
		math.MinInt, math.MinInt + 1, -api.MaxOff - 1, -api.MaxOff, -8, -1,
		0, 1, 2, 3, 5, 7, 8, 9, 13, 16,
		api.MaxIO - 1, api.MaxIO, api.MaxIO + 1,
		1<<31 - 1, 1 << 31, 1<<31 + 1, 1 << 32,
		api.MaxOff/3 + 1, api.MaxOff / 2, api.MaxOff/2 + 1,
		api.MaxOff - 8, api.MaxOff - 1, api.MaxOff, api.MaxOff + 1,
		math.MaxInt - 1, math.MaxInt,
	}
}

func span(pos, n int) api.Span { return api.Span{Pos: pos, Len: n} }

func isPlace(n *big.Int) bool {
	return n.Sign() >= 0 && n.Cmp(big.NewInt(api.MaxOff)) <= 0
}

// exactly folds l by op without any limit, then asks whether all of it may be.
func exactly(start int64, op func(z, x, y *big.Int) *big.Int, l []int) (int, bool) {
	whole, ok := big.NewInt(start), true
	for _, n := range l {
		b := big.NewInt(int64(n))
		ok = ok && isPlace(b)
		op(whole, whole, b)
	}
	if !ok || !isPlace(whole) {
		return 0, false
	}
	return int(whole.Int64()), true
}

func checkFold(t *testing.T, l ...int) {
	t.Helper()
	want, wantOK := exactly(0, (*big.Int).Add, l)
	if n, ok := off.Add(l...); n != want || ok != wantOK {
		t.Errorf("Add(%v): %d, %v; want %d, %v", l, n, ok, want, wantOK)
	}
	want, wantOK = exactly(1, (*big.Int).Mul, l)
	if n, ok := off.Mul(l...); n != want || ok != wantOK {
		t.Errorf("Mul(%v): %d, %v; want %d, %v", l, n, ok, want, wantOK)
	}
}

func TestRunsOfTheChapter(t *testing.T) {
	if n, ok := off.Add(1, 2, 3); n != 6 || !ok {
		t.Error(n, ok)
	}
	want := []api.Span{span(5, 3), span(8, 3)}
	if l := off.Parts(span(5, 6), 8); !slices.Equal(l, want) {
		t.Error(l)
	}
}

func TestMay(t *testing.T) { // P1.1
	for _, q := range []struct {
		n    int
		want bool
	}{
		{0, true}, {1, true}, {4711, true}, {api.MaxOff - 1, true}, {api.MaxOff, true},
		{api.MaxOff + 1, false}, {math.MaxInt, false}, {-1, false}, {-api.MaxOff, false}, {math.MinInt, false},
	} {
		if off.May(q.n) != q.want {
			t.Errorf("May(%d): %v", q.n, !q.want)
		}
	}
}

func TestAdd(t *testing.T) { // P1.1
	const top = api.MaxOff
	for _, q := range []struct {
		l    []int
		want int
		ok   bool
	}{
		{nil, 0, true}, {[]int{}, 0, true}, {[]int{0}, 0, true}, {[]int{0, 0, 0}, 0, true}, {[]int{42}, 42, true},
		{[]int{top}, top, true}, {[]int{top - 1, 1}, top, true}, {[]int{1, top - 1, 0}, top, true},
		{[]int{top / 2, top / 2}, top, true}, {[]int{top / 2, top/2 + 1}, 0, false},
		{[]int{top, 1}, 0, false}, {[]int{1, top}, 0, false}, {[]int{top, top}, 0, false},
		{[]int{top, top, top, top}, 0, false}, {[]int{top, top, top, top, 5}, 0, false},
		{[]int{top + 1}, 0, false}, {[]int{top + 1, -1}, 0, false}, {[]int{5, -1}, 0, false}, {[]int{-1, 5}, 0, false},
		{[]int{math.MaxInt}, 0, false}, {[]int{math.MinInt}, 0, false}, {[]int{math.MinInt, math.MinInt}, 0, false},
		{[]int{math.MaxInt, math.MinInt, 1}, 0, false},
	} {
		if n, ok := off.Add(q.l...); n != q.want || ok != q.ok {
			t.Errorf("Add(%v): %d, %v", q.l, n, ok)
		}
	}
}

func TestMul(t *testing.T) { // P1.1
	const top = api.MaxOff
	for _, q := range []struct {
		l    []int
		want int
		ok   bool
	}{
		{nil, 1, true}, {[]int{}, 1, true}, {[]int{0}, 0, true}, {[]int{1}, 1, true}, {[]int{2, 3, 7}, 42, true},
		{[]int{top}, top, true}, {[]int{top, 1, 1}, top, true}, {[]int{top / 2, 2}, top, true}, {[]int{1 << 31, 1 << 31}, top, true},
		{[]int{top, 2}, 0, false}, {[]int{top/2 + 1, 2}, 0, false}, {[]int{1 << 31, 1<<31 + 1}, 0, false}, {[]int{3, top/3 + 1}, 0, false},
		{[]int{1 << 32, 1 << 32}, 0, false}, {[]int{top, 4}, 0, false}, {[]int{top, 5}, 0, false},
		{[]int{0, top, top}, 0, true}, {[]int{top, 0, top}, 0, true}, {[]int{top, top, 0}, 0, true},
		{[]int{0, -1}, 0, false}, {[]int{-1, 0}, 0, false}, {[]int{0, top + 1}, 0, false}, {[]int{top + 1, 0}, 0, false},
		{[]int{top, top, -1}, 0, false}, {[]int{-1, -1}, 0, false}, {[]int{-1}, 0, false},
		{[]int{math.MaxInt}, 0, false}, {[]int{math.MinInt, 0}, 0, false}, {[]int{math.MinInt, -1}, 0, false},
	} {
		if n, ok := off.Mul(q.l...); n != q.want || ok != q.ok {
			t.Errorf("Mul(%v): %d, %v", q.l, n, ok)
		}
	}
}

func TestFoldsAgainstExactNumbers(t *testing.T) { // P1.1
	checkFold(t)
	for _, a := range edges() {
		checkFold(t, a)
		for _, b := range edges() {
			checkFold(t, a, b)
			for _, c := range edges() {
				checkFold(t, a, b, c)
			}
		}
	}
}

func TestFoldsOfManyNumbers(t *testing.T) { // P1.1
	l := make([]int, 100000)
	for i := range l {
		l[i] = 1
	}
	checkFold(t, l...)
	l[len(l)-1] = api.MaxOff
	checkFold(t, l...)
	l[0] = -1
	checkFold(t, l...)
}

func TestFoldsLeaveWhatTheyAreGiven(t *testing.T) { // R2
	room := []int{2, 3, 0, 99, 98}
	off.Add(room[:3]...)
	off.Mul(room[:3]...)
	if !slices.Equal(room, []int{2, 3, 0, 99, 98}) {
		t.Error(room)
	}
}

func TestMultiples(t *testing.T) { // P1.2
	const top = api.MaxOff
	for _, q := range []struct {
		n, unit, down, up int
		ok                bool
	}{
		{0, 1, 0, 0, true}, {0, 8, 0, 0, true}, {1, 8, 0, 8, true}, {7, 8, 0, 8, true}, {8, 8, 8, 8, true}, {9, 8, 8, 16, true}, {20, 7, 14, 21, true},
		{top, 1, top, top, true}, {top, 8, top, top, true}, {top - 1, 8, top - 8, top, true}, {top, top, top, top, true}, {1, top, 0, top, true},
		{top, 3, top - 1, 0, false}, {top - 1, 3, top - 1, top - 1, true}, {top - 2, 3, top - 4, top - 1, true},
		{0, top + 1, 0, 0, true}, {1, top + 1, 0, 0, false}, {top, top + 1, 0, 0, false},
		{0, math.MaxInt, 0, 0, true}, {1, math.MaxInt, 0, 0, false}, {top, math.MaxInt, 0, 0, false},
		{13, 0, 0, 0, false}, {13, -1, 0, 0, false}, {16, -8, 0, 0, false}, {13, math.MinInt, 0, 0, false}, {0, 0, 0, 0, false},
		{-1, 8, 0, 0, false}, {-8, 8, 0, 0, false}, {top + 1, 1, 0, 0, false}, {top + 8, 8, 0, 0, false},
		{math.MaxInt, 1, 0, 0, false}, {math.MinInt, 1, 0, 0, false}, {math.MinInt, -1, 0, 0, false},
	} {
		if n := off.Down(q.n, q.unit); n != q.down {
			t.Errorf("Down(%d, %d): %d", q.n, q.unit, n)
		}
		if n, ok := off.Up(q.n, q.unit); n != q.up || ok != q.ok {
			t.Errorf("Up(%d, %d): %d, %v", q.n, q.unit, n, ok)
		}
	}
}

func TestMultiplesAgainstExactNumbers(t *testing.T) { // P1.2
	for _, n := range edges() {
		for _, unit := range edges() {
			down, up, ok := 0, 0, false
			if n >= 0 && n <= api.MaxOff && unit >= 1 {
				u := big.NewInt(int64(unit))
				times, rest := new(big.Int).QuoRem(big.NewInt(int64(n)), u, new(big.Int))
				down = int(new(big.Int).Mul(times, u).Int64())
				if rest.Sign() > 0 {
					times.Add(times, big.NewInt(1))
				}
				if b := times.Mul(times, u); isPlace(b) {
					up, ok = int(b.Int64()), true
				}
			}
			if got := off.Down(n, unit); got != down {
				t.Errorf("Down(%d, %d): %d, want %d", n, unit, got, down)
			}
			if got, gotOK := off.Up(n, unit); got != up || gotOK != ok {
				t.Errorf("Up(%d, %d): %d, %v, want %d, %v", n, unit, got, gotOK, up, ok)
			}
		}
	}
}

func TestMaySpan(t *testing.T) { // P1.3
	const top = api.MaxOff
	for _, q := range []struct {
		s    api.Span
		want bool
	}{
		{span(0, 0), true}, {span(5, 6), true}, {span(0, top), true}, {span(top, 0), true}, {span(top-1, 1), true}, {span(top/2, top/2), true},
		{span(top, 1), false}, {span(1, top), false}, {span(top, top), false}, {span(top+1, 0), false}, {span(0, top+1), false},
		{span(-1, 1), false}, {span(1, -1), false}, {span(-1, 0), false}, {span(0, -1), false}, {span(top+1, -1), false}, {span(-1, top+1), false},
		{span(math.MaxInt, math.MaxInt), false}, {span(math.MinInt, math.MinInt), false}, {span(math.MaxInt, math.MinInt), false},
	} {
		if off.MaySpan(q.s) != q.want {
			t.Errorf("MaySpan(%v): %v", q.s, !q.want)
		}
	}
	for _, pos := range edges() {
		for _, n := range edges() {
			_, want := exactly(0, (*big.Int).Add, []int{pos, n})
			if off.MaySpan(span(pos, n)) != want {
				t.Errorf("MaySpan(%d, %d): %v", pos, n, !want)
			}
		}
	}
}

func TestMeetAndWithin(t *testing.T) { // P1.3
	const top = api.MaxOff
	none := api.Span{}
	for _, q := range []struct {
		a, b, meet api.Span
		aInB, bInA bool
		name       string
	}{
		{span(0, 10), span(5, 10), span(5, 5), false, false, "overlap"},
		{span(0, 10), span(3, 4), span(3, 4), false, true, "one inside"},
		{span(3, 4), span(3, 4), span(3, 4), true, true, "same"},
		{span(3, 4), span(3, 5), span(3, 4), true, false, "same start"},
		{span(4, 4), span(3, 5), span(4, 4), true, false, "same end"},
		{span(0, 5), span(5, 5), none, false, false, "touching"},
		{span(0, 5), span(9, 1), none, false, false, "apart"},
		{span(3, 0), span(0, 10), none, true, false, "no places, amid places"},
		{span(3, 0), span(9, 0), none, true, true, "no places, both"},
		{span(3, 0), span(3, 0), none, true, true, "no places, same"},
		{span(top, 0), span(0, 1), none, true, false, "no places, at the end"},
		{span(0, top), span(top-1, 1), span(top-1, 1), false, true, "last place"},
		{span(0, top), span(0, top), span(0, top), true, true, "all places"},
		{span(0, 5), span(3, -1), none, false, false, "negative length"},
		{span(0, 5), span(-1, 3), none, false, false, "negative place"},
		{span(3, 0), span(-1, 1), none, false, false, "no places, in none"},
		{span(0, 5), span(0, top+1), none, false, false, "too long"},
		{span(1, top-1), span(1, top), none, false, false, "ends too late"},
		{span(math.MaxInt, math.MaxInt), span(0, 5), none, false, false, "greatest"},
		{span(math.MinInt, math.MaxInt), span(0, 5), none, false, false, "least"},
		{span(0, -1), span(0, -1), none, false, false, "both are none"},
	} {
		if m := off.Meet(q.a, q.b); m != q.meet {
			t.Errorf("%s: Meet: %v", q.name, m)
		}
		if m := off.Meet(q.b, q.a); m != q.meet {
			t.Errorf("%s: Meet, turned about: %v", q.name, m)
		}
		if off.Within(q.a, q.b) != q.aInB || off.Within(q.b, q.a) != q.bInA {
			t.Errorf("%s: Within: %v, %v", q.name, !q.aInB, !q.bInA)
		}
	}
}

// places marks the small places of s, so that spans can be held against each other place by place.
func places(s api.Span) (marks [16]bool) {
	for i := range s.Len {
		marks[s.Pos+i] = true
	}
	return marks
}

func TestMeetAndWithinPlaceByPlace(t *testing.T) { // P1.3
	var spans []api.Span
	for pos := range 7 {
		for n := range 7 {
			spans = append(spans, span(pos, n))
		}
	}
	for _, a := range spans {
		for _, b := range spans {
			inA, inB, both, within := places(a), places(b), [16]bool{}, true
			for i := range both {
				both[i] = inA[i] && inB[i]
				within = within && (!inA[i] || inB[i])
			}
			m := off.Meet(a, b)
			if places(m) != both || (m.Len == 0 && m != api.Span{}) {
				t.Errorf("Meet(%v, %v): %v", a, b, m)
			}
			if off.Within(a, b) != within {
				t.Errorf("Within(%v, %v): %v", a, b, !within)
			}
		}
	}
}

func TestParts(t *testing.T) { // P1.3
	const top = api.MaxOff
	for _, q := range []struct {
		s    api.Span
		unit int
		want []api.Span
	}{
		{span(0, 8), 8, []api.Span{span(0, 8)}}, {span(8, 8), 8, []api.Span{span(8, 8)}}, {span(9, 7), 8, []api.Span{span(9, 7)}},
		{span(7, 10), 8, []api.Span{span(7, 1), span(8, 8), span(16, 1)}}, {span(7, 2), 1, []api.Span{span(7, 1), span(8, 1)}},
		{span(3, 5), math.MaxInt, []api.Span{span(3, 5)}}, {span(0, api.MaxIO), api.MaxIO, []api.Span{span(0, api.MaxIO)}},
		{span(1, api.MaxIO), api.MaxIO, []api.Span{span(1, api.MaxIO-1), span(api.MaxIO, 1)}},
		{span(top-9, 9), 8, []api.Span{span(top-9, 1), span(top-8, 8)}}, {span(top-1, 1), top, []api.Span{span(top-1, 1)}},
		{span(top-1, 1), math.MaxInt, []api.Span{span(top-1, 1)}},
		{span(0, 0), 8, nil}, {span(3, 0), 8, nil}, {span(top, 0), top, nil}, {span(top, 0), 1, nil},
		{span(0, api.MaxIO+1), 8, nil}, {span(0, api.MaxIO+1), math.MaxInt, nil}, {span(0, top), 1, nil},
		{span(3, 5), 0, nil}, {span(3, 5), -1, nil}, {span(3, 5), math.MinInt, nil},
		{span(-8, 8), 8, nil}, {span(-8, 16), 8, nil}, {span(8, -8), 8, nil}, {span(top, 1), 8, nil}, {span(top-1, 2), 8, nil},
		{span(math.MaxInt, 1), 8, nil}, {span(math.MinInt, 1), 8, nil}, {span(0, math.MinInt), 8, nil}, {span(1, math.MaxInt), 8, nil},
	} {
		if l := off.Parts(q.s, q.unit); !slices.Equal(l, q.want) {
			t.Errorf("Parts(%v, %d): %v", q.s, q.unit, l)
		}
	}
}

func TestPartsOfTheLongestSpan(t *testing.T) { // P1.3
	for _, pos := range []int{0, 1, 5, 8, api.MaxOff - api.MaxIO} {
		for _, unit := range []int{1, 2, 3, 7, 8, 4095, 4096, 4097} {
			checkParts(t, span(pos, api.MaxIO), unit)
		}
	}
}

func TestPartsOfSmallSpans(t *testing.T) { // P1.3
	for pos := range 20 {
		for n := range 20 {
			for unit := 1; unit < 12; unit++ {
				checkParts(t, span(pos, n), unit)
			}
		}
	}
}

// checkParts holds the parts of s against s cut place by place.
func checkParts(t *testing.T, s api.Span, unit int) {
	t.Helper()
	var want []api.Span
	for i := range s.Len {
		if place := s.Pos + i; i == 0 || place%unit == 0 {
			want = append(want, span(place, 0))
		}
		want[len(want)-1].Len++
	}
	if l := off.Parts(s, unit); !slices.Equal(l, want) {
		t.Errorf("Parts(%v, %d): %v", s, unit, l)
	}
}

func TestPartsAreNewMemory(t *testing.T) { // R2
	a := off.Parts(span(5, 20), 8)
	b := off.Parts(span(5, 20), 8)
	for i := range a[:cap(a)] {
		a[:cap(a)][i] = span(-1, -1)
	}
	if !slices.Equal(b, off.Parts(span(5, 20), 8)) || b[0] != span(5, 3) {
		t.Error(b)
	}
}
