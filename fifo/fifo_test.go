package fifo_test

import (
	"bytes"
	"math"
	"slices"
	"testing"

	"salvor/api"
	"salvor/fifo"
)

// counted is n bytes that tell their places: a run of them taken from elsewhere is another one.
func counted(n int) []byte {
	b := make([]byte, n)
	for i := range b {
		b[i] = byte(i) ^ byte(i>>8)*37
	}
	return b
}

func checkLen(t *testing.T, f *fifo.Fifo, want int) {
	t.Helper()
	if n := f.Len(); n != want {
		t.Errorf("Len: %d; want %d", n, want)
	}
}

// checkTake asks for a block that is want, and for left bytes behind it.
func checkTake(t *testing.T, f *fifo.Fifo, want []byte, left int) {
	t.Helper()
	if b, ok := f.Take(); !ok || !bytes.Equal(b, want) {
		t.Errorf("Take: %v, %v; want %v", b, ok, want)
	}
	checkLen(t, f, left)
}

// checkNoTake asks for no block, and that the left bytes stay.
func checkNoTake(t *testing.T, f *fifo.Fifo, left int) {
	t.Helper()
	if b, ok := f.Take(); ok || len(b) != 0 {
		t.Errorf("Take: %v, %v; want none", b, ok)
	}
	checkLen(t, f, left)
}

func checkRest(t *testing.T, f *fifo.Fifo, want []byte) {
	t.Helper()
	if b := f.Rest(); !bytes.Equal(b, want) {
		t.Errorf("Rest: %v; want %v", b, want)
	}
	checkLen(t, f, 0)
}

// spoil changes all of b, its spare room too.
func spoil(b []byte) {
	b = b[:cap(b)]
	for i := range b {
		b[i] ^= 255
	}
}

func TestRunsOfTheChapter(t *testing.T) {
	f := fifo.New(3)
	f.Put([]byte{1, 2}, []byte{3, 4})
	checkTake(t, f, []byte{1, 2, 3}, 1)
	checkRest(t, f, []byte{4})

	f = fifo.New(3)
	f.Put([]byte{1, 2})
	f.Put([]byte{3, 4})
	checkTake(t, f, []byte{1, 2, 3}, 1)
	checkRest(t, f, []byte{4})
}

func TestSizes(t *testing.T) { // P4.1
	for _, q := range []struct{ size, want int }{
		{math.MinInt, 1}, {math.MinInt + 1, 1}, {math.MinInt32, 1}, {-api.MaxIO, 1}, {-2, 1}, {-1, 1}, {0, 1},
		{1, 1}, {2, 2}, {3, 3}, {7, 7}, {8, 8}, {512, 512}, {4095, 4095},
		{4096, 4096}, {4097, 4096}, {8192, 4096}, {65536, 4096},
		{math.MaxInt32, 4096}, {1 << 32, 4096}, {1<<32 + 5, 4096}, {math.MaxInt - 1, 4096}, {math.MaxInt, 4096},
	} {
		all := counted(2*q.want + 1)
		f := fifo.New(q.size)
		f.Put(all[:q.want-1])
		checkNoTake(t, f, q.want-1)
		f.Put(all[q.want-1:])
		checkTake(t, f, all[:q.want], q.want+1)
		checkTake(t, f, all[q.want:2*q.want], 1)
		checkRest(t, f, all[2*q.want:])
	}
}

func TestNothingIsInANewOne(t *testing.T) { // P4.1
	for _, size := range []int{math.MinInt, -1, 0, 1, 2, 8, api.MaxIO, math.MaxInt} {
		f := fifo.New(size)
		checkLen(t, f, 0)
		checkNoTake(t, f, 0)
		checkRest(t, f, nil)
		checkNoTake(t, f, 0)
		checkRest(t, f, nil)
	}
}

func TestPutOfNothing(t *testing.T) { // P4.1, R4
	for _, l := range [][][]byte{nil, {}, {nil}, {{}}, {nil, {}, nil}} {
		f := fifo.New(1)
		f.Put(l...)
		checkLen(t, f, 0)
		checkNoTake(t, f, 0)
		checkRest(t, f, nil)

		f = fifo.New(2)
		f.Put([]byte{7})
		f.Put(l...)
		checkNoTake(t, f, 1)
		f.Put([]byte{8})
		f.Put(l...)
		checkTake(t, f, []byte{7, 8}, 0)
	}
	f := fifo.New(1)
	f.Put()
	checkLen(t, f, 0)
}

func TestPutOfSeveral(t *testing.T) { // P4.1
	f := fifo.New(4)
	f.Put(nil, []byte{1}, []byte{}, []byte{2, 3}, nil, []byte{4, 5, 6, 7, 8}, []byte{9}, nil)
	checkLen(t, f, 9)
	checkTake(t, f, []byte{1, 2, 3, 4}, 5)
	checkTake(t, f, []byte{5, 6, 7, 8}, 1)
	checkNoTake(t, f, 1)
	f.Put([]byte{10}, []byte{11})
	checkNoTake(t, f, 3)
	f.Put([]byte{12}, []byte{13})
	checkTake(t, f, []byte{9, 10, 11, 12}, 1)
	checkRest(t, f, []byte{13})
}

func TestBytesOfAnyKind(t *testing.T) { // P4.1
	all := make([]byte, 256)
	for i := range all {
		all[i] = byte(i)
	}
	f := fifo.New(256)
	f.Put(all)
	checkTake(t, f, all, 0)
	f.Put(make([]byte, 255))
	checkNoTake(t, f, 255)
	checkRest(t, f, make([]byte, 255))
}

func TestAboutOneBlock(t *testing.T) { // P4.1
	for _, size := range []int{1, 2, 3, 8, 100, api.MaxIO - 1, api.MaxIO} {
		all := counted(size + 1)
		f := fifo.New(size)
		f.Put(all[:size])
		checkTake(t, f, all[:size], 0)
		checkNoTake(t, f, 0)

		f.Put(all[:size-1])
		checkNoTake(t, f, size-1)
		checkNoTake(t, f, size-1)
		checkRest(t, f, all[:size-1])

		f.Put(all)
		checkTake(t, f, all[:size], 1)
		checkRest(t, f, all[size:])
	}
}

func TestManyBlocksOfOnePut(t *testing.T) { // P4.1
	all := counted(20*api.MaxIO + 3)
	for _, size := range []int{1, 7, 512, api.MaxIO - 1, api.MaxIO} {
		f := fifo.New(size)
		f.Put(all)
		checkLen(t, f, len(all))
		left := all
		for len(left) >= size {
			checkTake(t, f, left[:size], len(left)-size)
			left = left[size:]
		}
		checkNoTake(t, f, len(left))
		checkRest(t, f, left)
	}
}

func TestRestOfMoreThanABlock(t *testing.T) { // P4.1
	all := counted(3 * api.MaxIO)
	f := fifo.New(5)
	f.Put(all)
	checkRest(t, f, all)
	f.Put(all)
	checkTake(t, f, all[:5], len(all)-5)
	checkRest(t, f, all[5:])
	checkNoTake(t, f, 0)
	checkRest(t, f, nil)
}

func TestPutBehindRest(t *testing.T) { // P4.1
	f := fifo.New(2)
	f.Put([]byte{1, 2, 3, 4, 5})
	checkTake(t, f, []byte{1, 2}, 3)
	checkRest(t, f, []byte{3, 4, 5})
	f.Put([]byte{6})
	checkNoTake(t, f, 1)
	f.Put([]byte{7, 8})
	checkTake(t, f, []byte{6, 7}, 1)
	checkRest(t, f, []byte{8})
	checkRest(t, f, nil)
	f.Put([]byte{9, 10})
	checkTake(t, f, []byte{9, 10}, 0)
}

func TestPutAndTakeInTurns(t *testing.T) { // P4.1
	all := counted(4000)
	for _, size := range []int{1, 3, 10, 64} {
		for _, step := range []int{1, 2, 3, 11, 65} {
			f := fifo.New(size)
			in, out := 0, 0
			for in < len(all) {
				n := min(step, len(all)-in)
				f.Put(all[in : in+n])
				in += n
				checkLen(t, f, in-out)
				for in-out >= size {
					checkTake(t, f, all[out:out+size], in-out-size)
					out += size
				}
				checkNoTake(t, f, in-out)
			}
			checkRest(t, f, all[out:])
		}
	}
}

// history is a Fifo, and beside it what the promise says of it, written down as a text of bytes.
type history struct {
	f    *fifo.Fifo
	size int
	held string
	next byte
}

func (h *history) fresh(n int) []byte {
	var b []byte
	for range n {
		h.next++
		b = append(b, h.next)
	}
	return b
}

func (h *history) put(t *testing.T, lens ...int) {
	var l [][]byte
	for _, n := range lens {
		b := h.fresh(n)
		h.held += string(b)
		l = append(l, b)
	}
	h.f.Put(l...)
	for _, b := range l {
		spoil(b)
	}
	checkLen(t, h.f, len(h.held))
}

func (h *history) take(t *testing.T) {
	b, ok := h.f.Take()
	want := ""
	if len(h.held) >= h.size {
		want = h.held[:h.size]
	}
	if ok != (want != "") || string(b) != want {
		t.Errorf("Take: %v, %v; want %v", b, ok, []byte(want))
	}
	spoil(b)
	h.held = h.held[len(want):]
	checkLen(t, h.f, len(h.held))
}

func (h *history) rest(t *testing.T) {
	b := h.f.Rest()
	if string(b) != h.held {
		t.Errorf("Rest: %v; want %v", b, []byte(h.held))
	}
	spoil(b)
	h.held = ""
	checkLen(t, h.f, 0)
}

func TestAllShortHistories(t *testing.T) { // P4.1, R2
	deeds := []func(h *history){
		func(h *history) { h.put(t) },
		func(h *history) { h.put(t, 1) },
		func(h *history) { h.put(t, 2, 0, 3) },
		func(h *history) { h.put(t, 7) },
		func(h *history) { h.take(t) },
		func(h *history) { h.rest(t) },
	}
	const long = 6
	all := 1
	for range long {
		all *= len(deeds)
	}
	for size := 1; size <= 4; size++ {
		for n := range all {
			h := &history{f: fifo.New(size), size: size}
			for range long {
				deeds[n%len(deeds)](h)
				n /= len(deeds)
			}
			h.take(t)
			h.rest(t)
		}
		if t.Failed() {
			return
		}
	}
}

func TestArgumentsStay(t *testing.T) { // R2
	whole := []byte{1, 2, 3, 4, 5, 6, 7, 8}
	was := slices.Clone(whole)
	l := [][]byte{whole[0:2], whole[4:5], {9}}
	f := fifo.New(2)
	f.Put(l[:2]...)
	f.Put(l[:2]...)
	checkLen(t, f, 6)
	b, _ := f.Take()
	spoil(b)
	spoil(f.Rest())
	if !bytes.Equal(whole, was) {
		t.Error("a byte is changed")
	}
	if &l[0][0] != &whole[0] || len(l[0]) != 2 || &l[1][0] != &whole[4] || len(l[1]) != 1 || !bytes.Equal(l[2], []byte{9}) {
		t.Error("a list is changed")
	}
}

func TestSpareRoomIsNotRead(t *testing.T) { // R5
	whole := []byte{1, 2, 3, 4}
	f := fifo.New(3)
	f.Put(whole[:2], whole[2:2])
	checkNoTake(t, f, 2)
	f.Put([][]byte{{5}, {6}}[:1]...)
	checkTake(t, f, []byte{1, 2, 5}, 0)
}

func TestWhatWentInMayChange(t *testing.T) { // R2
	b := []byte{1, 2, 3, 4, 5}
	l := [][]byte{b[:3], b[3:]}
	f := fifo.New(4)
	f.Put(l...)
	spoil(b)
	l[0], l[1] = nil, []byte{9, 9}
	checkTake(t, f, []byte{1, 2, 3, 4}, 1)
	checkRest(t, f, []byte{5})
}

func TestWhatCameOutMayChange(t *testing.T) { // R2
	f := fifo.New(2)
	f.Put([]byte{1, 2, 3, 4, 5, 6, 7})
	first, _ := f.Take()
	spoil(first)
	_ = append(first, 8, 8, 8)
	second, _ := f.Take()
	spoil(second)
	f.Put([]byte{8})
	checkTake(t, f, []byte{5, 6}, 2)
	rest := f.Rest()
	spoil(rest)
	f.Put([]byte{9, 10})
	spoil(rest)
	checkTake(t, f, []byte{9, 10}, 0)
	if first[0] != 1^255 || second[0] != 3^255 || rest[0] != 7 {
		t.Error("what came out is changed:", first, second, rest)
	}
}

func TestWhatCameOutStays(t *testing.T) { // R2
	all := counted(200)
	f := fifo.New(3)
	f.Put(all[:100])
	block, _ := f.Take()
	rest := f.Rest()
	f.Put(all[100:], all)
	for range 50 {
		f.Take()
	}
	f.Rest()
	if !bytes.Equal(block, all[:3]) || !bytes.Equal(rest, all[3:100]) {
		t.Error("what came out is changed:", block, rest)
	}
}

func TestWhatCameOutGoesInAgain(t *testing.T) { // R2
	f := fifo.New(2)
	f.Put([]byte{1, 2, 3})
	block, _ := f.Take()
	f.Put(block)
	rest := f.Rest()
	f.Put(rest, rest)
	spoil(rest)
	spoil(block)
	checkTake(t, f, []byte{3, 1}, 4)
	checkTake(t, f, []byte{2, 3}, 2)
	checkTake(t, f, []byte{1, 2}, 0)
}

func TestTwoAreApart(t *testing.T) { // P4.1, R2
	a, b := fifo.New(1), fifo.New(2)
	shared := []byte{1, 2, 3}
	a.Put(shared)
	b.Put(shared)
	checkTake(t, a, []byte{1}, 2)
	checkLen(t, b, 3)
	checkRest(t, b, []byte{1, 2, 3})
	checkTake(t, a, []byte{2}, 1)
	checkLen(t, b, 0)
}
