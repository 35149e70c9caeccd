package runs_test

import (
	"bytes"
	"math"
	"slices"
	"testing"

	"salvor/api"
	"salvor/runs"
)

func noughts(pos, n int) api.Run { return api.Run{Pos: pos, Len: n, Zero: true} }

func others(pos, n int) api.Run { return api.Run{Pos: pos, Len: n} }

// lists goes through all lists of up to most bytes, each of them one of letters.
func lists(letters []byte, most int, visit func(b []byte)) {
	var grow func(b []byte)
	grow = func(b []byte) {
		visit(b)
		if len(b) == most {
			return
		}
		for _, c := range letters {
			grow(append(slices.Clone(b), c))
		}
	}
	grow(nil)
}

// isZero asks another way than the program: by what is left when all noughts are taken away.
func isZero(b []byte) bool { return len(bytes.ReplaceAll(b, []byte{0}, nil)) == 0 }

// byPlaces finds the runs place by place: two neighbours are of one run if their pieces are alike.
func byPlaces(b []byte, unit int) []api.Run {
	kinds := make([]bool, len(b))
	for i := range b {
		if i%unit > 0 {
			kinds[i] = kinds[i-1]
			continue
		}
		end := len(b)
		if unit < len(b)-i {
			end = i + unit
		}
		kinds[i] = isZero(b[i:end])
	}
	var want []api.Run
	for i, kind := range kinds {
		if i == 0 || kinds[i-1] != kind {
			want = append(want, api.Run{Pos: i, Zero: kind})
		}
		want[len(want)-1].Len++
	}
	return want
}

func checkRuns(t *testing.T, b []byte, unit int, want []api.Run) {
	t.Helper()
	if l := runs.Runs(b, unit); !slices.Equal(l, want) {
		t.Errorf("Runs(%v, %d): %v; want %v", b, unit, l, want)
	}
}

func TestRunsOfTheChapter(t *testing.T) {
	checkRuns(t, []byte{0, 0, 1, 0, 0, 0, 0}, 2, []api.Run{noughts(0, 2), others(2, 2), noughts(4, 3)})
}

func TestZero(t *testing.T) { // P3.1
	long := make([]byte, 3*api.MaxIO)
	longEnd := slices.Clone(long)
	longEnd[len(longEnd)-1] = 1
	for i, q := range []struct {
		l    [][]byte
		want bool
	}{
		{nil, true}, {[][]byte{}, true}, {[][]byte{nil}, true}, {[][]byte{{}}, true}, {[][]byte{nil, {}, nil}, true},
		{[][]byte{{0}}, true}, {[][]byte{{0, 0, 0}}, true}, {[][]byte{{0}, nil, {0, 0}, {}}, true}, {[][]byte{long, long}, true},
		{[][]byte{{1}}, false}, {[][]byte{{255}}, false}, {[][]byte{{128}}, false}, {[][]byte{{'0'}}, false}, {[][]byte{{1, 2, 3}}, false},
		{[][]byte{{1, 0, 0}}, false}, {[][]byte{{0, 1, 0}}, false}, {[][]byte{{0, 0, 1}}, false}, {[][]byte{longEnd}, false},
		{[][]byte{{1}, {0}, {0}}, false}, {[][]byte{{0}, {1}, {0}}, false}, {[][]byte{{0}, {0}, {1}}, false},
		{[][]byte{nil, {0, 1}}, false}, {[][]byte{{0, 1}, nil}, false}, {[][]byte{{}, {7}, {}}, false},
	} {
		if runs.Zero(q.l...) != q.want {
			t.Errorf("row %d: %v", i, !q.want)
		}
	}
	if !runs.Zero() {
		t.Error("of no lists")
	}
}

func TestZeroOfEachByte(t *testing.T) { // P3.1
	for c := range 256 {
		if runs.Zero([]byte{0, byte(c), 0}) != (c == 0) {
			t.Error(c)
		}
	}
}

func TestZeroOfSeveral(t *testing.T) { // P3.1
	lists([]byte{0, 9}, 3, func(a []byte) {
		lists([]byte{0, 9}, 3, func(b []byte) {
			want := isZero(a) && isZero(b)
			if runs.Zero(a, b) != want || runs.Zero(a, nil, b) != want || runs.Zero(slices.Concat(a, b)) != want {
				t.Errorf("Zero(%v, %v): not %v", a, b, want)
			}
		})
	})
}

func TestLeadAndTrail(t *testing.T) { // P3.1
	for _, q := range []struct {
		b           []byte
		lead, trail int
	}{
		{nil, 0, 0}, {[]byte{}, 0, 0}, {[]byte{0}, 1, 1}, {[]byte{0, 0, 0}, 3, 3}, {make([]byte, 5000), 5000, 5000},
		{[]byte{1}, 0, 0}, {[]byte{255}, 0, 0}, {[]byte{'0'}, 0, 0}, {[]byte{1, 2, 3}, 0, 0},
		{[]byte{1, 0, 0, 0}, 0, 3}, {[]byte{0, 0, 1, 0}, 2, 1}, {[]byte{0, 0, 0, 1}, 3, 0},
		{[]byte{1, 0, 1}, 0, 0}, {[]byte{0, 1, 0, 0, 1, 0, 0, 0}, 1, 3},
	} {
		if n := runs.Lead(q.b); n != q.lead {
			t.Errorf("Lead(%v): %d", q.b, n)
		}
		if n := runs.Trail(q.b); n != q.trail {
			t.Errorf("Trail(%v): %d", q.b, n)
		}
	}
}

func TestLeadAndTrailOfAllShortLists(t *testing.T) { // P3.1
	lists([]byte{0, 1, 200}, 6, func(b []byte) {
		if n, want := runs.Lead(b), len(b)-len(bytes.TrimLeft(b, "\x00")); n != want {
			t.Errorf("Lead(%v): %d; want %d", b, n, want)
		}
		if n, want := runs.Trail(b), len(b)-len(bytes.TrimRight(b, "\x00")); n != want {
			t.Errorf("Trail(%v): %d; want %d", b, n, want)
		}
	})
}

func TestRuns(t *testing.T) { // P3.2
	turns := []byte{0, 0, 1, 1, 0, 0, 1, 1}
	for _, q := range []struct {
		b    []byte
		unit int
		want []api.Run
	}{
		// The last piece is shorter than the unit, and alike or not.
		{[]byte{0, 0, 0}, 2, []api.Run{noughts(0, 3)}},
		{[]byte{0, 0, 5}, 2, []api.Run{noughts(0, 2), others(2, 1)}},
		{[]byte{5, 0, 0}, 2, []api.Run{others(0, 2), noughts(2, 1)}},
		{[]byte{0, 5, 5}, 2, []api.Run{others(0, 3)}},
		// A single byte that is not 0 takes its piece along, wherever it stands there.
		{[]byte{7, 0, 0, 0, 0, 0}, 3, []api.Run{others(0, 3), noughts(3, 3)}},
		{[]byte{0, 7, 0, 0, 0, 0}, 3, []api.Run{others(0, 3), noughts(3, 3)}},
		{[]byte{0, 0, 7, 0, 0, 0}, 3, []api.Run{others(0, 3), noughts(3, 3)}},
		{[]byte{0, 0, 0, 0, 0, 7}, 3, []api.Run{noughts(0, 3), others(3, 3)}},
		// Noughts that no whole piece holds are no run.
		{[]byte{1, 0, 0, 1}, 2, []api.Run{others(0, 4)}},
		{turns, 1, []api.Run{noughts(0, 2), others(2, 2), noughts(4, 2), others(6, 2)}},
		{turns, 2, []api.Run{noughts(0, 2), others(2, 2), noughts(4, 2), others(6, 2)}},
		{turns, 3, []api.Run{others(0, 8)}},
		{turns, 4, []api.Run{others(0, 8)}},
		{turns, 5, []api.Run{others(0, 8)}},
		{turns, 7, []api.Run{others(0, 8)}},
		{turns, 8, []api.Run{others(0, 8)}},
		{turns, 9, []api.Run{others(0, 8)}},
		{turns, math.MaxInt - 1, []api.Run{others(0, 8)}},
		{turns, math.MaxInt, []api.Run{others(0, 8)}},
		{[]byte{0, 1, 0, 1}, 1, []api.Run{noughts(0, 1), others(1, 1), noughts(2, 1), others(3, 1)}},
		{make([]byte, 8), 1, []api.Run{noughts(0, 8)}},
		{make([]byte, 8), 8, []api.Run{noughts(0, 8)}},
		{make([]byte, 8), 9, []api.Run{noughts(0, 8)}},
		{make([]byte, 8), math.MaxInt, []api.Run{noughts(0, 8)}},
		{[]byte{1, 2, 3, 4}, 1, []api.Run{others(0, 4)}},
		{[]byte{0}, 1, []api.Run{noughts(0, 1)}},
		{[]byte{255}, 1, []api.Run{others(0, 1)}},
	} {
		checkRuns(t, q.b, q.unit, q.want)
	}
}

func TestRunsOfNothing(t *testing.T) { // P3.2
	for _, unit := range []int{math.MinInt, -8, -1, 0, 1, 8, math.MaxInt} {
		checkRuns(t, nil, unit, nil)
		checkRuns(t, []byte{}, unit, nil)
	}
	for _, unit := range []int{math.MinInt, math.MinInt + 1, -8, -1, 0} {
		checkRuns(t, []byte{0}, unit, nil)
		checkRuns(t, []byte{0, 0, 1, 0}, unit, nil)
	}
}

func TestRunsOfAllShortLists(t *testing.T) { // P3.2
	lists([]byte{0, 3}, 9, func(b []byte) {
		for _, unit := range []int{1, 2, 3, 4, 5, 6, 7, 8, 9, 10, 11, api.MaxOff, math.MaxInt - 8, math.MaxInt} {
			checkRuns(t, b, unit, byPlaces(b, unit))
		}
	})
}

func TestRunsOfManyPieces(t *testing.T) { // P3.2
	b := make([]byte, 4*api.MaxIO+5)
	for i := range b {
		// Stretches of growing length, so that runs end both at and beside the units' multiples.
		if (i*i/4096)%3 == 1 {
			b[i] = byte(i | 1)
		}
	}
	for _, unit := range []int{1, 7, api.Block, 512, api.MaxIO, len(b) - 1, len(b), len(b) + 1} {
		checkRuns(t, b, unit, byPlaces(b, unit))
	}
}

func TestArgumentsStay(t *testing.T) { // R2
	whole := []byte{0, 0, 1, 0, 0, 0, 9, 0, 0}
	was := slices.Clone(whole)
	b := whole[1:5]
	l := [][]byte{b, b, nil}[:2]
	runs.Zero(l...)
	runs.Lead(b)
	runs.Trail(b)
	runs.Runs(b, 2)
	if !bytes.Equal(whole, was) || len(l[:3][2]) != 0 || &l[0][0] != &whole[1] || &l[1][0] != &whole[1] {
		t.Error("an argument is changed")
	}
}

func TestSpareRoomIsNotRead(t *testing.T) { // R5
	whole := []byte{5, 0, 0, 5, 0}
	b := whole[1:3]
	if !runs.Zero(b) || runs.Lead(b) != 2 || runs.Trail(b) != 2 {
		t.Error("noughts alone")
	}
	checkRuns(t, b, 3, []api.Run{noughts(0, 2)})
	if !runs.Zero([][]byte{{0}, {1}}[:1]...) {
		t.Error("a list behind the length")
	}
}

func TestAnswersAreNew(t *testing.T) { // R2
	b := []byte{0, 1, 0}
	first := runs.Runs(b, 1)
	for i := range first[:cap(first)] {
		first[:cap(first)][i] = others(99, 99)
	}
	checkRuns(t, b, 1, []api.Run{noughts(0, 1), others(1, 1), noughts(2, 1)})
}
