package swab_test

import (
	"bytes"
	"slices"
	"testing"

	"salvor/swab"
)

// counted is n bytes that tell their places: a run of them taken from elsewhere is another one.
func counted(n int) []byte {
	b := make([]byte, n)
	for i := range b {
		b[i] = byte(i) ^ byte(i>>8)*37
	}
	return b
}

// turned is all whole pairs of b turned about, by their places in b alone: nothing of it is a stream.
func turned(b []byte) []byte {
	out := make([]byte, len(b)/2*2)
	for i := range out {
		out[i] = b[i^1]
	}
	return out
}

func checkPut(t *testing.T, s *swab.Swab, in, want []byte) {
	t.Helper()
	if got := s.Put(in); !bytes.Equal(got, want) {
		t.Errorf("Put(%v): %v; want %v", in, got, want)
	}
}

// checkEnd asks for want, and then for nothing.
func checkEnd(t *testing.T, s *swab.Swab, want []byte) {
	t.Helper()
	if got := s.End(); !bytes.Equal(got, want) {
		t.Errorf("End: %v; want %v", got, want)
	}
	if got := s.End(); len(got) != 0 {
		t.Errorf("End again: %v; want none", got)
	}
}

// spoil changes all of b, its spare room too.
func spoil(b []byte) {
	b = b[:cap(b)]
	for i := range b {
		b[i] ^= 255
	}
}

func TestRunsOfTheChapter(t *testing.T) {
	s := swab.New(true)
	checkPut(t, s, []byte{1, 2, 3}, []byte{2, 1})
	checkPut(t, s, []byte{4}, []byte{4, 3})
	checkEnd(t, s, nil)
}

func TestNothingIsKeptBackInANewOne(t *testing.T) { // P6.1
	for _, on := range []bool{false, true} {
		checkEnd(t, swab.New(on), nil)
		s := swab.New(on)
		checkPut(t, s, nil, nil)
		checkPut(t, s, []byte{}, nil)
		checkEnd(t, s, nil)
	}
	checkPut(t, swab.New(true), []byte{1, 2}, []byte{2, 1})
	checkPut(t, swab.New(true), []byte{1}, nil)
}

func TestNotOn(t *testing.T) { // P6.1
	s := swab.New(false)
	all := counted(70001)
	for _, n := range []int{0, 1, 2, 3, 4, 5, 255, 256, 257, 4095, 4096, 4097, 70001} {
		checkPut(t, s, all[:n], all[:n])
		checkEnd(t, s, nil)
		checkPut(t, s, all[:n], all[:n])
	}
	checkPut(t, s, nil, nil)
	checkEnd(t, s, nil)
	for i := range 256 {
		checkPut(t, s, []byte{byte(i)}, []byte{byte(i)})
	}
	checkEnd(t, s, nil)
}

func TestLengths(t *testing.T) { // P6.1
	all := counted(70001)
	for _, n := range []int{0, 1, 2, 3, 4, 5, 6, 7, 8, 255, 256, 257, 4095, 4096, 4097, 70000, 70001} {
		s := swab.New(true)
		checkPut(t, s, all[:n], turned(all[:n]))
		checkEnd(t, s, all[n/2*2:n])
	}
}

func TestLengthsBehindAByteKeptBack(t *testing.T) { // P6.1
	all := counted(70001)
	for _, n := range []int{0, 1, 2, 3, 4, 5, 6, 7, 8, 255, 256, 257, 4095, 4096, 4097, 70000} {
		s := swab.New(true)
		checkPut(t, s, all[:1], nil)
		checkPut(t, s, all[1:n+1], turned(all[:n+1]))
		checkEnd(t, s, all[(n+1)/2*2:n+1])
	}
}

func TestPutOfNothing(t *testing.T) { // P6.1, R4
	for _, none := range [][]byte{nil, {}, make([]byte, 0, 8), counted(4)[4:]} {
		s := swab.New(true)
		checkPut(t, s, none, nil)
		checkEnd(t, s, nil)
		checkPut(t, s, []byte{1}, nil)
		checkPut(t, s, none, nil)
		checkPut(t, s, none, nil)
		checkPut(t, s, []byte{2}, []byte{2, 1})
		checkPut(t, s, none, nil)
		checkPut(t, s, []byte{3}, nil)
		checkPut(t, s, none, nil)
		checkEnd(t, s, []byte{3})

		s = swab.New(false)
		checkPut(t, s, []byte{1}, []byte{1})
		checkPut(t, s, none, nil)
		checkEnd(t, s, nil)
	}
}

func TestPairsOfAnyBytes(t *testing.T) { // P6.1
	for i := range 256 {
		for j := range 256 {
			a, b := byte(i), byte(j)
			s := swab.New(true)
			checkPut(t, s, []byte{a, b}, []byte{b, a})
			checkPut(t, s, []byte{b}, nil)
			checkPut(t, s, []byte{a}, []byte{a, b})
			checkPut(t, s, []byte{a}, nil)
			checkEnd(t, s, []byte{a})
		}
	}
}

func TestEndAndPutBehindIt(t *testing.T) { // P6.1
	s := swab.New(true)
	checkPut(t, s, []byte{1, 2, 3}, []byte{2, 1})
	checkEnd(t, s, []byte{3})
	checkPut(t, s, []byte{4, 5, 6}, []byte{5, 4})
	checkPut(t, s, []byte{7}, []byte{7, 6})
	checkEnd(t, s, nil)
	checkPut(t, s, []byte{8}, nil)
	checkEnd(t, s, []byte{8})
	checkPut(t, s, nil, nil)
	checkEnd(t, s, nil)
	checkPut(t, s, []byte{0}, nil)
	checkEnd(t, s, []byte{0})
	checkPut(t, s, []byte{9, 10}, []byte{10, 9})
	checkEnd(t, s, nil)
}

// checkPiece puts all[from:to] in, where all[:from] went in ahead.
func checkPiece(t *testing.T, s *swab.Swab, all []byte, from, to int) {
	t.Helper()
	checkPut(t, s, all[from:to], turned(all[:to])[from/2*2:])
}

func TestAllCutsOfAFewBytes(t *testing.T) { // P6.1
	for n := 1; n <= 11; n++ {
		all := counted(n)
		for cuts := range 1 << (n - 1) {
			s := swab.New(true)
			from := 0
			for to := 1; to <= n; to++ {
				if to == n || cuts>>(to-1)&1 == 1 {
					checkPiece(t, s, all, from, to)
					from = to
				}
			}
			checkEnd(t, s, all[n/2*2:])
		}
	}
}

func TestManyBytesInPieces(t *testing.T) { // P6.1
	for _, n := range []int{5000, 5001} {
		all := counted(n)
		for _, step := range []int{1, 2, 3, 4, 7, 8, 255, 512, 4095, 4096, 4999, 5000} {
			s := swab.New(true)
			for from := 0; from < n; from += step {
				checkPiece(t, s, all, from, min(from+step, n))
			}
			checkEnd(t, s, all[n/2*2:])
		}
	}
}

// history is a Swab, and beside it all that went in since its last End.
type history struct {
	s    *swab.Swab
	on   bool
	went []byte
	next byte
}

func (h *history) put(t *testing.T, n int) {
	from := len(h.went)
	for range n {
		h.next++
		h.went = append(h.went, h.next)
	}
	want := h.went[from:]
	if h.on {
		want = turned(h.went)[from/2*2:]
	}
	in := slices.Clone(h.went[from:])
	got := h.s.Put(in)
	if !bytes.Equal(got, want) {
		t.Errorf("on %v, Put(%v): %v; want %v", h.on, in, got, want)
	}
	spoil(in)
	spoil(got)
}

func (h *history) end(t *testing.T) {
	var want []byte
	if h.on {
		want = h.went[len(h.went)/2*2:]
	}
	got := h.s.End()
	if !bytes.Equal(got, want) {
		t.Errorf("on %v, End: %v; want %v", h.on, got, want)
	}
	spoil(got)
	h.went = nil
}

// deed n of a history: puts of 0 to 3 bytes, and an End.
func (h *history) deed(t *testing.T, n int) {
	if n == 4 {
		h.end(t)
	} else {
		h.put(t, n)
	}
}

func TestAllShortHistories(t *testing.T) { // P6.1, R2
	const deeds, long = 5, 6
	all := 1
	for range long {
		all *= deeds
	}
	for _, on := range []bool{false, true} {
		for n := range all {
			h := &history{s: swab.New(on), on: on}
			for range long {
				h.deed(t, n%deeds)
				n /= deeds
			}
			h.end(t)
			h.end(t)
		}
		if t.Failed() {
			return
		}
	}
}

func TestTwoAreApart(t *testing.T) { // P6.1, R2
	shared := []byte{1, 2, 3}
	a, b, c := swab.New(true), swab.New(true), swab.New(false)
	checkPut(t, a, shared, []byte{2, 1})
	checkEnd(t, b, nil)
	checkPut(t, c, shared, shared)
	checkPut(t, b, []byte{7}, nil)
	checkPut(t, c, []byte{8}, []byte{8})
	checkEnd(t, c, nil)
	checkPut(t, a, []byte{4, 5}, []byte{4, 3})
	checkEnd(t, a, []byte{5})
	checkPut(t, b, shared, []byte{1, 7, 3, 2})
	checkPut(t, a, []byte{6, 9}, []byte{9, 6})
	checkEnd(t, b, nil)
}

func TestTwoHistoriesSideBySide(t *testing.T) { // P6.1, R2
	const deeds = 5
	for n := range deeds * deeds * deeds * deeds * deeds * deeds {
		a := &history{s: swab.New(true), on: true}
		b := &history{s: swab.New(true), on: true, next: 100}
		for range 3 {
			a.deed(t, n%deeds)
			n /= deeds
			b.deed(t, n%deeds)
			n /= deeds
		}
		a.end(t)
		b.end(t)
		if t.Failed() {
			return
		}
	}
}

func TestArgumentsStay(t *testing.T) { // R2
	for _, on := range []bool{false, true} {
		for n := range 9 {
			whole := counted(16)
			was := slices.Clone(whole)
			s := swab.New(on)
			first := s.Put(whole[:n])
			second := s.Put(whole[n/2 : n])
			last := s.End()
			spoil(first)
			spoil(second)
			spoil(last)
			_ = append(first, 99, 99, 99)
			if !bytes.Equal(whole, was) {
				t.Errorf("on %v, %d bytes: changed to %v", on, n, whole)
			}
		}
	}
}

func TestSpareRoomIsNotRead(t *testing.T) { // R5
	whole := []byte{1, 2, 3, 4, 5, 6}
	s := swab.New(true)
	checkPut(t, s, whole[:1], nil)
	checkPut(t, s, whole[2:2], nil)
	checkPut(t, s, whole[4:5], []byte{5, 1})
	checkPut(t, s, whole[1:4], []byte{3, 2})
	checkEnd(t, s, []byte{4})
	checkPut(t, swab.New(false), whole[1:3], []byte{2, 3})
}

func TestWhatWentInMayChange(t *testing.T) { // R2
	b := []byte{1, 2, 3}
	s := swab.New(true)
	checkPut(t, s, b, []byte{2, 1})
	spoil(b)
	checkPut(t, s, []byte{4}, []byte{4, 3})
	b = []byte{5}
	checkPut(t, s, b, nil)
	spoil(b)
	checkEnd(t, s, []byte{5})

	for _, on := range []bool{false, true} {
		b = []byte{6, 6, 7, 7}
		out := swab.New(on).Put(b)
		spoil(b)
		if !bytes.Equal(out, []byte{6, 6, 7, 7}) {
			t.Errorf("on %v: what came out is changed: %v", on, out)
		}
	}
}

func TestWhatCameOutStays(t *testing.T) { // R2
	all := counted(40)
	for _, on := range []bool{false, true} {
		s := swab.New(on)
		var came, were [][]byte
		keep := func(b []byte) {
			came = append(came, b)
			were = append(were, slices.Clone(b))
		}
		for n := range 9 {
			keep(s.Put(all[:n]))
			keep(s.Put(all[n : n+3]))
			keep(s.End())
		}
		// Each in turn is filled up to the end of its spare room: none of the others may feel it.
		for i, b := range came {
			spoil(b)
			for j := range came {
				if j != i && !bytes.Equal(came[j], were[j]) {
					t.Errorf("on %v: answer %d is changed by answer %d", on, j, i)
				}
			}
			spoil(b)
		}
	}
}

func TestSpareRoomOfAnswersIsTheirOwn(t *testing.T) { // R2
	for _, on := range []bool{false, true} {
		s := swab.New(on)
		var came [][]byte
		for n := range 9 {
			came = append(came, s.Put(counted(n)), s.Put(counted(3)), s.End())
		}
		for i, b := range came {
			fill(b, byte(i))
		}
		for i, b := range came {
			for _, c := range b[:cap(b)] {
				if c != byte(i) {
					t.Fatalf("on %v: answer %d shares memory with answer %d", on, i, c)
				}
			}
		}
	}
}

// fill makes all of b, its spare room too, to be c.
func fill(b []byte, c byte) {
	b = b[:cap(b)]
	for i := range b {
		b[i] = c
	}
}

func TestWhatCameOutGoesInAgain(t *testing.T) { // P6.1, R2
	s := swab.New(true)
	out := s.Put([]byte{1, 2, 3, 4, 5})
	again := s.Put(out)
	if !bytes.Equal(out, []byte{2, 1, 4, 3}) || !bytes.Equal(again, []byte{2, 5, 4, 1}) {
		t.Error(out, again)
	}
	last := s.End()
	checkPut(t, s, last, nil)
	spoil(last)
	checkEnd(t, s, []byte{3})

	whole := counted(64)
	back := swab.New(true).Put(swab.New(true).Put(whole))
	if !bytes.Equal(back, whole) {
		t.Error("turned about twice:", back)
	}
}
