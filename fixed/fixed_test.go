package fixed_test

import (
	"bytes"
	"math"
	"slices"
	"strings"
	"testing"

	"salvor/api"
	"salvor/fixed"
)

// stream is what Packer and Unpacker both have.
type stream interface {
	Put(b []byte) []byte
	End() []byte
	Cbs() int
	Held() int
}

// packed is the records of all lines of b that a byte 10 ends, how many bytes are behind the last of them, and how many lines were cut; nothing of it is a stream.
func packed(b []byte, cbs int) (out []byte, held, cut int) {
	lines := bytes.Split(b, []byte("\n"))
	for _, line := range lines[:len(lines)-1] {
		for i := range cbs {
			if i < len(line) {
				out = append(out, line[i])
			} else {
				out = append(out, ' ')
			}
		}
		if len(line) > cbs {
			cut++
		}
	}
	return out, len(lines[len(lines)-1]), cut
}

// unpacked is the lines of all full records of b, and how many bytes are behind the last of them.
func unpacked(b []byte, cbs int) (out []byte, held int) {
	for len(b) >= cbs {
		out = append(out, strings.TrimRight(string(b[:cbs]), " ")+"\n"...)
		b = b[cbs:]
	}
	return out, len(b)
}

func checkPut(t *testing.T, s stream, in, want string, held int) {
	t.Helper()
	if got := s.Put([]byte(in)); string(got) != want {
		t.Errorf("Cbs %d, Put(%q): %q; want %q", s.Cbs(), in, got, want)
	}
	checkHeld(t, s, held)
}

// checkEnd asks for want, and then for nothing.
func checkEnd(t *testing.T, s stream, want string) {
	t.Helper()
	if got := s.End(); string(got) != want {
		t.Errorf("Cbs %d, End: %q; want %q", s.Cbs(), got, want)
	}
	checkHeld(t, s, 0)
	if got := s.End(); len(got) != 0 {
		t.Errorf("Cbs %d, End again: %q; want none", s.Cbs(), got)
	}
	checkHeld(t, s, 0)
}

func checkHeld(t *testing.T, s stream, want int) {
	t.Helper()
	if got := s.Held(); got != want {
		t.Errorf("Cbs %d: held %d; want %d", s.Cbs(), got, want)
	}
}

func checkCut(t *testing.T, p *fixed.Packer, want int) {
	t.Helper()
	if got := p.Cut(); got != want {
		t.Errorf("Cbs %d: cut %d; want %d", p.Cbs(), got, want)
	}
}

// spoil changes all of b, its spare room too.
func spoil(b []byte) {
	b = b[:cap(b)]
	for i := range b {
		b[i] ^= 255
	}
}

// fill makes all of b, its spare room too, to be c.
func fill(b []byte, c byte) {
	b = b[:cap(b)]
	for i := range b {
		b[i] = c
	}
}

// letters is n bytes of which none is 10 or 32, and that tell their places.
func letters(n int) string {
	b := make([]byte, n)
	for i := range b {
		b[i] = 'A' + byte((i^i>>5)%57)
	}
	return string(b)
}

func TestRunsOfTheChapter(t *testing.T) {
	p := fixed.NewPacker(3)
	checkPut(t, p, "ab\ncdef\n", "ab cde", 0)
	checkCut(t, p, 1)
	checkEnd(t, p, "")
	u := fixed.NewUnpacker(3)
	checkPut(t, u, "ab c", "ab\n", 1)
	checkEnd(t, u, "c\n")
}

func TestCbsIsBroughtIntoItsLimits(t *testing.T) { // P7.1
	for _, c := range []struct{ in, want int }{
		{math.MinInt, 1}, {math.MinInt + 1, 1}, {math.MinInt32, 1}, {-4096, 1}, {-1, 1}, {0, 1}, {1, 1}, {2, 2}, {7, 7}, {8, 8}, {255, 255}, {256, 256}, {512, 512},
		{api.MaxIO - 1, api.MaxIO - 1}, {api.MaxIO, api.MaxIO}, {api.MaxIO + 1, api.MaxIO}, {65536, api.MaxIO}, {math.MaxInt32, api.MaxIO}, {1 << 32, api.MaxIO}, {1<<32 + 1, api.MaxIO}, {math.MaxInt - 1, api.MaxIO}, {math.MaxInt, api.MaxIO},
	} {
		p, u := fixed.NewPacker(c.in), fixed.NewUnpacker(c.in)
		if p.Cbs() != c.want || u.Cbs() != c.want {
			t.Errorf("Cbs of %d: %d, %d; want %d", c.in, p.Cbs(), u.Cbs(), c.want)
		}
		checkPut(t, p, "\n", strings.Repeat(" ", c.want), 0)
		checkPut(t, u, letters(c.want), letters(c.want)+"\n", 0)
		if p.Cbs() != c.want || u.Cbs() != c.want {
			t.Errorf("Cbs of %d behind a Put: %d, %d; want %d", c.in, p.Cbs(), u.Cbs(), c.want)
		}
		checkEnd(t, p, "")
		checkEnd(t, u, "")
		if p.Cbs() != c.want || u.Cbs() != c.want {
			t.Errorf("Cbs of %d behind an End: %d, %d; want %d", c.in, p.Cbs(), u.Cbs(), c.want)
		}
	}
}

func TestNothingIsHeldInANewOne(t *testing.T) { // P7.1, P7.2, P7.3
	for _, cbs := range []int{-1, 0, 1, 3, api.MaxIO, api.MaxIO + 1} {
		for _, s := range []stream{fixed.NewPacker(cbs), fixed.NewUnpacker(cbs)} {
			checkHeld(t, s, 0)
			checkPut(t, s, "", "", 0)
			checkEnd(t, s, "")
			checkPut(t, s, "", "", 0)
		}
		checkCut(t, fixed.NewPacker(cbs), 0)
	}
}

// Cbs and Held stand in Rec, and are the others' by embedding.
func TestBothHaveARec(t *testing.T) { // P7.1, Ways
	p, u := fixed.NewPacker(4), fixed.NewUnpacker(5)
	recs := []*fixed.Rec{&p.Rec, &u.Rec}
	check := func(want ...int) {
		t.Helper()
		got := []int{recs[0].Cbs(), recs[0].Held(), recs[1].Cbs(), recs[1].Held()}
		if !slices.Equal(got, want) {
			t.Errorf("Cbs and Held: %v; want %v", got, want)
		}
	}
	check(4, 0, 5, 0)
	p.Put([]byte("abcdef"))
	check(4, 6, 5, 0)
	u.Put([]byte("ab"))
	check(4, 6, 5, 2)
	p.Put([]byte("\nxy"))
	u.Put([]byte("cdefghij"))
	check(4, 2, 5, 0)
	u.Put([]byte("k"))
	p.End()
	check(4, 0, 5, 1)
	u.End()
	check(4, 0, 5, 0)
}

// Each length of a line around that of a record, ended by a byte 10, and by End.
func TestLinesOfAllLengths(t *testing.T) { // P7.1, P7.2
	for _, cbs := range []int{1, 2, 3, 7, 8, 80, 512, api.MaxIO - 1, api.MaxIO} {
		for _, n := range []int{0, 1, 2, cbs - 1, cbs, cbs + 1, cbs + 2, 2*cbs - 1, 2 * cbs, 2*cbs + 1, 5*cbs + 3, 70001} {
			line := letters(n)
			want := line[:min(n, cbs)] + strings.Repeat(" ", max(cbs-n, 0))
			cut := 0
			if n > cbs {
				cut = 1
			}
			p := fixed.NewPacker(cbs)
			checkPut(t, p, line+"\n", want, 0)
			checkCut(t, p, cut)
			checkEnd(t, p, "")
			checkCut(t, p, cut)

			checkPut(t, p, line, "", n)
			checkCut(t, p, cut)
			if n == 0 {
				want = ""
			}
			checkEnd(t, p, want)
			checkCut(t, p, 2*cut)
		}
	}
}

func TestSeveralLinesAtOnce(t *testing.T) { // P7.2
	p := fixed.NewPacker(4)
	checkPut(t, p, "\n", "    ", 0)
	checkPut(t, p, "\n\n\n", strings.Repeat(" ", 12), 0)
	checkCut(t, p, 0)
	checkPut(t, p, "a\n\nabcd\nabcde\nab", "a       abcdabcd", 2)
	checkCut(t, p, 1)
	checkPut(t, p, "cdefgh", "", 8)
	checkCut(t, p, 1)
	checkPut(t, p, "\nxyz\nvwxyz\n\n12345", "abcdxyz vwxy    ", 5)
	checkCut(t, p, 3)
	checkPut(t, p, "\n", "1234", 0)
	checkCut(t, p, 4)
	checkPut(t, p, " \n", "    ", 0)
	checkPut(t, p, "  a \n a\n     \n", "  a  a      ", 0)
	checkCut(t, p, 5)
	checkEnd(t, p, "")
	checkCut(t, p, 5)
}

// A line that grows beyond a record by many calls is one record that was cut.
func TestCutIsCountedOnceARecord(t *testing.T) { // P7.1, P7.2
	p := fixed.NewPacker(2)
	for i := range 1000 {
		checkPut(t, p, "abc", "", 3*i+3)
		checkCut(t, p, 0)
	}
	checkPut(t, p, "\n", "ab", 0)
	checkCut(t, p, 1)
	checkPut(t, p, "ab\nabc\nab\nabcdef\nabc", "abababab", 3)
	checkCut(t, p, 3)
	checkEnd(t, p, "ab")
	checkCut(t, p, 4)
	checkPut(t, p, "xy", "", 2)
	checkEnd(t, p, "xy")
	checkCut(t, p, 4)
	for i := range 300 {
		checkPut(t, p, "xyz", "", 3)
		checkEnd(t, p, "xy")
		checkCut(t, p, 5+i)
	}
}

// What a line was longer by is no part of the next.
func TestALineBeginsAnew(t *testing.T) { // P7.2
	p := fixed.NewPacker(3)
	checkPut(t, p, "abcdef\ng\n", "abcg  ", 0)
	checkPut(t, p, "abcdef", "", 6)
	checkPut(t, p, "gh\n\nij\n", "abc   ij ", 0)
	checkPut(t, p, "abcdef", "", 6)
	checkEnd(t, p, "abc")
	checkPut(t, p, "g", "", 1)
	checkEnd(t, p, "g  ")
	checkPut(t, p, "\n", "   ", 0)
}

func TestPackerGoesOnBehindEnd(t *testing.T) { // P7.2
	p := fixed.NewPacker(3)
	checkPut(t, p, "a", "", 1)
	checkEnd(t, p, "a  ")
	// The line was ended by End, so that this byte 10 ends one without a byte.
	checkPut(t, p, "\nb", "   ", 1)
	checkEnd(t, p, "b  ")
	checkPut(t, p, "c\n", "c  ", 0)
	checkEnd(t, p, "")
	checkPut(t, p, "defg", "", 4)
	checkEnd(t, p, "def")
	checkPut(t, p, "hi\nj", "hi ", 1)
	checkPut(t, p, "kl\n", "jkl", 0)
	checkEnd(t, p, "")
	checkPut(t, p, " ", "", 1)
	checkEnd(t, p, "   ")
	checkCut(t, p, 1)
}

func TestPackerTakesAnyByte(t *testing.T) { // P7.1, P7.2
	for i := range 256 {
		c := string([]byte{byte(i)})
		p := fixed.NewPacker(3)
		if i == 10 {
			checkPut(t, p, c, "   ", 0)
			checkPut(t, p, "a"+c+c, "a     ", 0)
			continue
		}
		checkPut(t, p, c, "", 1)
		checkPut(t, p, c+"\n", c+c+" ", 0)
		checkPut(t, p, "ab"+c+c+c+"\n"+c, "ab"+c, 1)
		checkEnd(t, p, c+"  ")
		checkCut(t, p, 1)
	}
}

func TestRecordsWithBytes32(t *testing.T) { // P7.3
	for _, c := range []struct{ in, want string }{
		{"    ", ""}, {"a   ", "a"}, {"ab  ", "ab"}, {"abc ", "abc"}, {"abcd", "abcd"},
		{" a  ", " a"}, {"  a ", "  a"}, {"   a", "   a"}, {"a b ", "a b"}, {"a  b", "a  b"}, {" a b", " a b"},
		{"a\n  ", "a\n"}, {"\n   ", "\n"}, {"  \n ", "  \n"}, {"   \n", "   \n"}, {"\n\n\n\n", "\n\n\n\n"}, {"a\nb ", "a\nb"}, {" \n a", " \n a"},
		{"a\t  ", "a\t"}, {"\x00   ", "\x00"}, {"   \x00", "   \x00"}, {" \r  ", " \r"}, {"\xa0 \xa0 ", "\xa0 \xa0"}, {"\xc2\xa0  ", "\xc2\xa0"}, {"\xff\xfe! ", "\xff\xfe!"}, {"\xe2\x80\x83 ", "\xe2\x80\x83"},
	} {
		u := fixed.NewUnpacker(4)
		checkPut(t, u, c.in, c.want+"\n", 0)
		checkPut(t, u, c.in+c.in, c.want+"\n"+c.want+"\n", 0)
		checkEnd(t, u, "")
		long := fixed.NewUnpacker(5)
		checkPut(t, long, c.in, "", 4)
		checkEnd(t, long, c.want+"\n")
		checkPut(t, long, c.in, "", 4)
		checkPut(t, long, " ", c.want+"\n", 0)
		checkPut(t, long, c.in, "", 4)
		checkPut(t, long, "x", c.in+"x\n", 0)
		checkEnd(t, long, "")
	}
}

func TestUnpackerTakesAnyByte(t *testing.T) { // P7.3
	for i := range 256 {
		c := string([]byte{byte(i)})
		u := fixed.NewUnpacker(2)
		want := c
		if i == 32 {
			want = ""
		}
		checkPut(t, u, c, "", 1)
		checkEnd(t, u, want+"\n")
		checkPut(t, u, c+" "+c, want+"\n", 1)
		checkPut(t, u, "a", c+"a\n", 0)
		checkPut(t, u, " "+c, strings.TrimRight(" "+want, " ")+"\n", 0)
		one := fixed.NewUnpacker(1)
		checkPut(t, one, c+c, want+"\n"+want+"\n", 0)
		checkEnd(t, one, "")
	}
}

func TestRecordsOfAllLengths(t *testing.T) { // P7.1, P7.3
	for _, cbs := range []int{1, 2, 3, 7, 8, 80, 512, api.MaxIO - 1, api.MaxIO} {
		for _, n := range []int{0, 1, 2, cbs - 1, cbs, cbs + 1, cbs + 2, 2*cbs - 1, 2 * cbs, 2*cbs + 1, 5*cbs + 3} {
			b := letters(n)
			want, held := unpacked([]byte(b), cbs)
			u := fixed.NewUnpacker(cbs)
			checkPut(t, u, b, string(want), held)
			last := ""
			if held > 0 {
				last = b[n-held:] + "\n"
			}
			checkEnd(t, u, last)
		}
		u := fixed.NewUnpacker(cbs)
		checkPut(t, u, strings.Repeat(" ", 3*cbs), "\n\n\n", 0)
		checkPut(t, u, strings.Repeat(" ", cbs-1), "", cbs-1)
		if cbs > 1 {
			checkEnd(t, u, "\n")
		} else {
			checkEnd(t, u, "")
		}
	}
}

func TestUnpackerGoesOnBehindEnd(t *testing.T) { // P7.3
	u := fixed.NewUnpacker(3)
	checkPut(t, u, "ab", "", 2)
	checkEnd(t, u, "ab\n")
	checkPut(t, u, "c", "", 1)
	checkPut(t, u, "de", "cde\n", 0)
	checkEnd(t, u, "")
	checkPut(t, u, "  ", "", 2)
	checkEnd(t, u, "\n")
	checkPut(t, u, "fg hi jk", "fg\nhi\n", 2)
	checkPut(t, u, " ", "jk\n", 0)
	checkEnd(t, u, "")
	checkPut(t, u, "\n", "", 1)
	checkEnd(t, u, "\n\n")
	checkPut(t, u, " x", "", 2)
	checkEnd(t, u, " x\n")
}

func TestPutOfNothing(t *testing.T) { // P7.2, P7.3, R4
	for _, none := range [][]byte{nil, {}, make([]byte, 0, 8), []byte("ab\n\n")[4:], []byte("\n\n\n\n")[:0]} {
		p, u := fixed.NewPacker(2), fixed.NewUnpacker(2)
		nothing := func(s stream, held int) {
			t.Helper()
			if got := s.Put(none); len(got) != 0 {
				t.Errorf("Put of nothing: %q", got)
			}
			checkHeld(t, s, held)
		}
		nothing(p, 0)
		nothing(u, 0)
		checkEnd(t, p, "")
		checkEnd(t, u, "")
		checkPut(t, p, "abc", "", 3)
		checkPut(t, u, "a", "", 1)
		nothing(p, 3)
		nothing(u, 1)
		nothing(p, 3)
		checkCut(t, p, 0)
		checkPut(t, p, "d\n", "ab", 0)
		checkPut(t, u, "b", "ab\n", 0)
		nothing(p, 0)
		nothing(u, 0)
		checkCut(t, p, 1)
		checkEnd(t, p, "")
		checkEnd(t, u, "")
	}
}

// history is a Packer and an Unpacker of one length, and beside them all that went in since the last End.
type history struct {
	p    *fixed.Packer
	u    *fixed.Unpacker
	cbs  int
	went []byte
	cut  int
}

func newHistory(cbs int) *history {
	return &history{p: fixed.NewPacker(cbs), u: fixed.NewUnpacker(cbs), cbs: cbs}
}

// asked holds an answer, and what is held behind it, against what they should be; no one needs the answer any more then.
func (h *history) asked(t *testing.T, s stream, deed string, got, want []byte, held int) {
	if !bytes.Equal(got, want) || s.Held() != held || s.Cbs() != h.cbs {
		t.Errorf("%T of %d behind %q, %s: %q, held %d, Cbs %d; want %q, held %d", s, h.cbs, h.went, deed, got, s.Held(), s.Cbs(), want, held)
	}
	spoil(got)
}

func (h *history) put(t *testing.T, b string) {
	packs, _, _ := packed(h.went, h.cbs)
	lines, _ := unpacked(h.went, h.cbs)
	now := append(slices.Clone(h.went), b...)
	packsNow, heldOfLine, cut := packed(now, h.cbs)
	linesNow, heldOfRecord := unpacked(now, h.cbs)

	in := []byte(b)
	h.asked(t, h.p, "Put "+b, h.p.Put(in), packsNow[len(packs):], heldOfLine)
	spoil(in)
	in = []byte(b)
	h.asked(t, h.u, "Put "+b, h.u.Put(in), linesNow[len(lines):], heldOfRecord)
	spoil(in)
	if h.p.Cut() != h.cut+cut {
		t.Errorf("Packer of %d behind %q: cut %d; want %d", h.cbs, now, h.p.Cut(), h.cut+cut)
	}
	h.went = now
}

func (h *history) end(t *testing.T) {
	_, heldOfLine, cut := packed(h.went, h.cbs)
	_, heldOfRecord := unpacked(h.went, h.cbs)
	var pack, line []byte
	if heldOfLine > 0 {
		last := append(slices.Clone(h.went[len(h.went)-heldOfLine:]), '\n')
		var one int
		pack, _, one = packed(last, h.cbs)
		cut += one
	}
	if heldOfRecord > 0 {
		last := append(slices.Clone(h.went[len(h.went)-heldOfRecord:]), strings.Repeat(" ", h.cbs-heldOfRecord)...)
		line, _ = unpacked(last, h.cbs)
	}
	h.asked(t, h.p, "End", h.p.End(), pack, 0)
	h.asked(t, h.u, "End", h.u.End(), line, 0)
	h.cut += cut
	if h.p.Cut() != h.cut {
		t.Errorf("Packer of %d behind %q and End: cut %d; want %d", h.cbs, h.went, h.p.Cut(), h.cut)
	}
	h.went = nil
}

// The deeds of short histories; the first is an End.
var deeds = []string{"", "a", " ", "\n", "b\n", "c \n\nd"}

func (h *history) deed(t *testing.T, n int) {
	if n == 0 {
		h.end(t)
	} else {
		h.put(t, deeds[n])
	}
}

func TestAllShortHistories(t *testing.T) { // P7.1, P7.2, P7.3, R2
	const long = 5
	all := 1
	for range long {
		all *= len(deeds)
	}
	for cbs := 1; cbs <= 4; cbs++ {
		for n := range all {
			h := newHistory(cbs)
			for range long {
				h.deed(t, n%len(deeds))
				n /= len(deeds)
			}
			h.end(t)
			h.end(t)
			if t.Failed() {
				return
			}
		}
	}
}

func TestTwoHistoriesSideBySide(t *testing.T) { // P7.1, P7.2, P7.3, R2
	all := len(deeds) * len(deeds) * len(deeds) * len(deeds)
	for n := range all {
		a, b := newHistory(2), newHistory(3)
		for range 2 {
			a.deed(t, n%len(deeds))
			n /= len(deeds)
			b.deed(t, n%len(deeds))
			n /= len(deeds)
			a.put(t, "xy")
			b.put(t, "z\nv")
		}
		b.end(t)
		a.end(t)
		if t.Failed() {
			return
		}
	}
}

// All ways to cut some bytes into pieces, with a few lines and records in them.
func TestAllCutsOfAFewBytes(t *testing.T) { // P7.2, P7.3
	for _, all := range []string{"ab\ncdef\n\ng", "a  b \nc  ", "\n\nabc\n  \n", "          ", "\n\n\n\n\n\n", "abcdefghij"} {
		for _, cbs := range []int{1, 2, 3, 5, 20} {
			for cuts := range 1 << (len(all) - 1) {
				h := newHistory(cbs)
				from := 0
				for to := 1; to <= len(all); to++ {
					if to == len(all) || cuts>>(to-1)&1 == 1 {
						h.put(t, all[from:to])
						from = to
					}
				}
				h.end(t)
			}
			if t.Failed() {
				return
			}
		}
	}
}

// mixed is n bytes with lines of many lengths, and with bytes 32 one by one and in runs.
func mixed(n int) string {
	b := []byte(letters(n))
	for i, next := 0, 0; i < n; i += next % 97 {
		b[i] = '\n'
		next = next*31 + 7
	}
	for i := range b {
		if i*i%11 == 3 || i/13%5 == 1 {
			b[i] = ' '
		}
	}
	return string(b)
}

func TestManyBytesInPieces(t *testing.T) { // P7.2, P7.3
	all := mixed(9001)
	for _, cbs := range []int{1, 2, 13, 80, 4095, api.MaxIO} {
		records, heldOfLine, cut := packed([]byte(all), cbs)
		lines, heldOfRecord := unpacked([]byte(all), cbs)
		for _, step := range []int{1, 2, 3, 7, 8, 13, 80, 512, 4095, 4096, 4097, 9000, 9001} {
			p, u := fixed.NewPacker(cbs), fixed.NewUnpacker(cbs)
			var outP, outU []byte
			for from := 0; from < len(all); from += step {
				piece := []byte(all[from:min(from+step, len(all))])
				outP = append(outP, p.Put(piece)...)
				outU = append(outU, u.Put(piece)...)
			}
			if !bytes.Equal(outP, records) || p.Held() != heldOfLine || p.Cut() != cut {
				t.Errorf("Packer of %d, pieces of %d: %d bytes, held %d, cut %d; want %d, %d, %d", cbs, step, len(outP), p.Held(), p.Cut(), len(records), heldOfLine, cut)
			}
			if !bytes.Equal(outU, lines) || u.Held() != heldOfRecord {
				t.Errorf("Unpacker of %d, pieces of %d: %d bytes, held %d; want %d, %d", cbs, step, len(outU), u.Held(), len(lines), heldOfRecord)
			}
		}
	}
}

func TestManyCalls(t *testing.T) { // P7.1, P7.2, P7.3
	p, u := fixed.NewPacker(5), fixed.NewUnpacker(5)
	for i := range 2000 {
		n := i % 12
		line := letters(n)
		checkPut(t, p, line+"\n", (line + "     ")[:5], 0)
		want := ""
		if n%5 > 0 {
			want = line[n/5*5:] + "\n"
		}
		out, held := unpacked([]byte(line), 5)
		checkPut(t, u, line, string(out), held)
		checkEnd(t, u, want)
		checkCut(t, p, i/12*6+max(n-5, 0))
	}
}

func TestTwoAreApart(t *testing.T) { // P7.1, P7.2, P7.3, R2
	a, b := fixed.NewPacker(2), fixed.NewPacker(4)
	c, d := fixed.NewUnpacker(2), fixed.NewUnpacker(4)
	checkPut(t, a, "ab\ncd", "ab", 2)
	checkEnd(t, b, "")
	checkPut(t, c, "ab\ncd", "ab\n\nc\n", 1)
	checkPut(t, d, "xyz", "", 3)
	checkPut(t, b, "vw", "", 2)
	checkPut(t, a, "e", "", 3)
	checkEnd(t, c, "d\n")
	checkEnd(t, a, "cd")
	checkCut(t, a, 1)
	checkCut(t, b, 0)
	checkPut(t, d, " ", "xyz\n", 0)
	checkPut(t, b, "xyz", "", 5)
	checkEnd(t, b, "vwxy")
	checkCut(t, a, 1)
	checkCut(t, b, 1)
}

// One list goes into all of them, and each holds bytes of it.
func TestOneListForAll(t *testing.T) { // P7.2, P7.3, R2
	shared := []byte("abcde")
	p, q := fixed.NewPacker(8), fixed.NewPacker(8)
	u, v := fixed.NewUnpacker(8), fixed.NewUnpacker(8)
	all := []stream{p, q, u, v}
	for _, s := range all {
		s.Put(shared[:2])
	}
	for i, s := range all {
		s.Put(shared[2+i/2 : 3+i/2])
	}
	p.Put([]byte("x"))
	u.Put([]byte("y"))
	checkEnd(t, q, "abc     ")
	checkEnd(t, v, "abd\n")
	checkEnd(t, p, "abcx    ")
	checkEnd(t, u, "abdy\n")
	if string(shared) != "abcde" {
		t.Errorf("changed to %q", shared)
	}
}

// streams is one of each, made anew.
func streams(cbs int) []stream {
	return []stream{fixed.NewPacker(cbs), fixed.NewUnpacker(cbs)}
}

func TestArgumentsStay(t *testing.T) { // R2
	const text = "ab \n\ncdef  \n ghij"
	for cbs := 1; cbs <= 8; cbs++ {
		for n := range len(text) + 1 {
			for _, s := range streams(cbs) {
				whole := []byte(text)
				first := s.Put(whole[:n])
				second := s.Put(whole[n/2 : n])
				last := s.End()
				spoil(first)
				spoil(second)
				spoil(last)
				s.Put([]byte("xyz\nxyz"))
				if string(whole) != text {
					t.Errorf("%T of %d, %d bytes: changed to %q", s, cbs, n, whole)
				}
			}
		}
	}
}

func TestSpareRoomIsNotRead(t *testing.T) { // R5
	whole := []byte("ab\ncdefghi\n\n\n  ")
	p := fixed.NewPacker(3)
	u := fixed.NewUnpacker(3)
	for _, c := range []struct {
		from, to     int
		pack, line   string
		heldP, heldU int
	}{
		{0, 2, "", "", 2, 2}, {3, 3, "", "", 2, 2}, {3, 4, "", "abc\n", 3, 0}, {2, 3, "abc", "", 0, 1}, {5, 7, "", "\nef\n", 2, 0}, {10, 11, "ef ", "", 0, 1}, {10, 10, "", "", 0, 1},
	} {
		if got := p.Put(whole[c.from:c.to]); string(got) != c.pack || p.Held() != c.heldP {
			t.Errorf("Packer, Put(%q): %q, held %d; want %q, %d", whole[c.from:c.to], got, p.Held(), c.pack, c.heldP)
		}
		if got := u.Put(whole[c.from:c.to]); string(got) != c.line || u.Held() != c.heldU {
			t.Errorf("Unpacker, Put(%q): %q, held %d; want %q, %d", whole[c.from:c.to], got, u.Held(), c.line, c.heldU)
		}
	}
	checkEnd(t, p, "")
	checkEnd(t, u, "\n\n")
}

func TestWhatWentInMayChange(t *testing.T) { // R2
	p, u := fixed.NewPacker(8), fixed.NewUnpacker(8)
	for n := 1; n <= 3; n++ {
		for _, s := range []stream{p, u} {
			b := append(make([]byte, 0, 32), letters(n)...)
			s.Put(b)
			spoil(b)
		}
	}
	checkEnd(t, p, "AABABC  ")
	checkEnd(t, u, "AABABC\n")

	b := []byte("abc\ndefghijkl\n")
	packs, lines := fixed.NewPacker(4).Put(b), fixed.NewUnpacker(4).Put(b)
	spoil(b)
	if string(packs) != "abc defg" || string(lines) != "abc\n\ndefg\nhijk\n" {
		t.Errorf("what came out is changed: %q, %q", packs, lines)
	}
}

// answers is what one stream answers in many calls.
func answers(s stream) [][]byte {
	text := []byte("abc\n\n  d efghi\nxyz vw\nq")
	var came [][]byte
	for n := range len(text) + 1 {
		came = append(came, s.Put(text[:n]), s.Put(text[n:]), s.End())
	}
	return came
}

func TestWhatCameOutStays(t *testing.T) { // R2
	for _, cbs := range []int{1, 3, 6, 40} {
		for _, s := range streams(cbs) {
			came := answers(s)
			for i, b := range came {
				fill(b, byte(i))
			}
			for i, b := range came {
				for _, c := range b[:cap(b)] {
					if c != byte(i) {
						t.Fatalf("%T of %d: answer %d shares memory with answer %d", s, cbs, i, c)
					}
				}
			}
		}
	}
}

// What is done to an answer is not felt by what is held, nor by later answers.
func TestWhatCameOutMayChange(t *testing.T) { // R2
	for _, cbs := range []int{1, 3, 6, 40} {
		plain := streams(cbs)
		for i, s := range streams(cbs) {
			for j, piece := range []string{"ab\ncd  ", "efg", "\n", "\nhijklmnop\n", " ", "q"} {
				got, want := s.Put([]byte(piece)), plain[i].Put([]byte(piece))
				if !bytes.Equal(got, want) {
					t.Errorf("%T of %d: answer %d is %q; want %q", s, cbs, j, got, want)
				}
				spoil(got)
				_ = append(got, "xyz\n"...)
			}
			if got, want := s.End(), plain[i].End(); !bytes.Equal(got, want) {
				t.Errorf("%T of %d: End is %q; want %q", s, cbs, got, want)
			}
		}
	}
}

// An answer shares nothing with what is held: neither feels what is done to the other.
func TestWhatIsHeldIsApartFromAnswers(t *testing.T) { // R2
	for _, cbs := range []int{3, 6, 40} {
		for i, last := range []string{"xy" + strings.Repeat(" ", cbs-2), "xy\n"} {
			s := streams(cbs)[i]
			s.Put([]byte("cd"))
			end := s.End()
			wasEnd := slices.Clone(end)
			s.Put([]byte("e"))
			put := s.Put([]byte("\n" + letters(cbs-2)))
			put = append(put, s.Put([]byte("\n"))...)
			wasPut := slices.Clone(put)
			s.End()
			s.Put([]byte("xy"))
			if !bytes.Equal(end, wasEnd) || !bytes.Equal(put, wasPut) {
				t.Errorf("%T of %d: what came out is changed: %q, %q; it was %q, %q", s, cbs, end, put, wasEnd, wasPut)
			}
			spoil(end)
			spoil(put)
			checkEnd(t, s, last)
		}
	}
}

func TestWhatCameOutGoesInAgain(t *testing.T) { // P7.2, P7.3, R2
	u := fixed.NewUnpacker(4)
	out := u.Put([]byte("ab cd"))
	again := u.Put(out)
	if string(out) != "ab c\n" || string(again) != "dab\n" || u.Held() != 2 {
		t.Errorf("%q, %q, held %d", out, again, u.Held())
	}
	checkEnd(t, u, "c\n\n")

	text := "a\n\nbcd\n ef\ng h\n"
	records := fixed.NewPacker(5).Put([]byte(text))
	checkPut(t, fixed.NewUnpacker(5), string(records), text, 0)
	padded := "ab   cd  e     "
	lines := fixed.NewUnpacker(5).Put([]byte(padded))
	checkPut(t, fixed.NewPacker(5), string(lines), padded, 0)
}
