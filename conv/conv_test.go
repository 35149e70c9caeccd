package conv_test

import (
	"bytes"
	"math"
	"slices"
	"strings"
	"testing"

	"salvor/api"
	"salvor/conv"
	"salvor/tab"
)

// set is the conversions whose bits n has.
func set(n, cbs int) api.Convs {
	on := func(bit int) bool { return n>>bit&1 == 1 }
	return api.Convs{Swab: on(0), Block: on(1), Unblock: on(2), Lcase: on(3), Ucase: on(4), Ascii: on(5), Ebcdic: on(6), Ibm: on(7), Cbs: cbs}
}

// sets is how many sets of conversions there are.
const sets = 256

// apart is the pairs that may not be together, one by one, by their bits.
var apart = [][2]int{
	{5, 6}, {5, 7}, {6, 7}, // two codes
	{3, 4},                 // two cases
	{1, 2}, {6, 2}, {7, 2}, // what blocks, and Unblock
	{1, 5}, // Block, and Ascii, which unblocks
}

func together(n int) bool {
	for _, p := range apart {
		if n>>p[0]&1 == 1 && n>>p[1]&1 == 1 {
			return false
		}
	}
	return true
}

// ofRecords is whether the set has one of Block, Unblock, Ascii, Ebcdic, Ibm.
func ofRecords(n int) bool { return n&(1<<1|1<<2|1<<5|1<<6|1<<7) != 0 }

// mays is all sets that may be, with that Cbs.
func mays(cbs int) []api.Convs {
	var l []api.Convs
	for n := range sets {
		if together(n) && (cbs > 0 || !ofRecords(n)) {
			l = append(l, set(n, cbs))
		}
	}
	return l
}

// turned is the pairs of b, each turned about; a last byte without a second is there to the end alone.
func turned(b []byte, ended bool) []byte {
	var out []byte
	for i := 0; i+1 < len(b); i += 2 {
		out = append(out, b[i+1], b[i])
	}
	if ended && len(b)%2 == 1 {
		out = append(out, b[len(b)-1])
	}
	return out
}

// packed is the records of the lines of b, and how many of them were cut.
func packed(b []byte, cbs int, ended bool) (out []byte, cut int) {
	lines := bytes.Split(b, []byte("\n"))
	last := len(lines) - 1
	if !ended || len(lines[last]) == 0 {
		lines = lines[:last]
	}
	for _, line := range lines {
		if len(line) > cbs {
			cut++
			line = line[:cbs]
		}
		out = append(out, line...)
		out = append(out, strings.Repeat(" ", cbs-len(line))...)
	}
	return out, cut
}

// unpacked is the lines of the records of b.
func unpacked(b []byte, cbs int, ended bool) []byte {
	var out []byte
	for from := 0; from < len(b); from += cbs {
		to := min(from+cbs, len(b))
		if to-from == cbs || ended {
			out = append(out, strings.TrimRight(string(b[from:to]), " ")+"\n"...)
		}
	}
	return out
}

// codes is the three tables, made once.
var codes = [3][256]byte{tab.Ascii(), tab.Ebcdic(), tab.Ibm()}

func coded(b []byte, code int) []byte {
	out := slices.Clone(b)
	for i := range out {
		out[i] = codes[code][out[i]]
	}
	return out
}

// cased is b with all letters from first on brought to those from to on.
func cased(b []byte, first, to byte) []byte {
	out := slices.Clone(b)
	for i, c := range out {
		if c >= first && c <= first+25 {
			out[i] = c - first + to
		}
	}
	return out
}

// whole is what comes out by now of all that went in, and how many lines were cut; nothing of it is a stream. c may be.
func whole(c api.Convs, b []byte, ended bool) (out []byte, cut int) {
	if c.Swab {
		b = turned(b, ended)
	}
	if c.Ascii {
		b = coded(b, 0)
	}
	if c.Lcase {
		b = cased(b, 'A', 'a')
	}
	if c.Ucase {
		b = cased(b, 'a', 'A')
	}
	if c.Block || c.Ebcdic || c.Ibm {
		b, cut = packed(b, c.Cbs, ended)
	}
	if c.Unblock || c.Ascii {
		b = unpacked(b, c.Cbs, ended)
	}
	if c.Ebcdic {
		b = coded(b, 1)
	}
	if c.Ibm {
		b = coded(b, 2)
	}
	return slices.Clone(b), cut
}

func checkPut(t *testing.T, v *conv.Conv, in, want string) {
	t.Helper()
	if got := v.Put([]byte(in)); string(got) != want {
		t.Errorf("Put(%q): %q; want %q", in, got, want)
	}
}

// checkEnd asks for want, and then for nothing.
func checkEnd(t *testing.T, v *conv.Conv, want string) {
	t.Helper()
	if got := v.End(); string(got) != want {
		t.Errorf("End: %q; want %q", got, want)
	}
	if got := v.End(); len(got) != 0 {
		t.Errorf("End again: %q; want none", got)
	}
}

func checkCut(t *testing.T, v *conv.Conv, want int) {
	t.Helper()
	if got := v.Cut(); got != want {
		t.Errorf("Cut: %d; want %d", got, want)
	}
}

func checkAll(t *testing.T, c api.Convs, want string, in ...string) {
	t.Helper()
	var l [][]byte
	for _, s := range in {
		l = append(l, []byte(s))
	}
	if got := conv.All(c, l...); string(got) != want {
		t.Errorf("All(%+v, %q): %q; want %q", c, in, got, want)
	}
}

// spoil changes all of b, its spare room too.
func spoil(b []byte) {
	b = b[:cap(b)]
	for i := range b {
		b[i] ^= 255
	}
}

// fill makes all of b, its spare room too, to be c.
func fill(b []byte, c byte) {
	b = b[:cap(b)]
	for i := range b {
		b[i] = c
	}
}

func TestRunsOfTheChapter(t *testing.T) {
	checkAll(t, api.Convs{Ucase: true, Block: true, Cbs: 3}, "AB ", "ab\n")
}

// lengths is numbers to be a Cbs, the least and the greatest among them.
var lengths = []int{
	math.MinInt, math.MinInt + 1, math.MinInt32, -1 << 32, -api.MaxIO, -2, -1, 0, 1, 2, 3, 8, 80, 512, api.MaxIO - 1, api.MaxIO,
	api.MaxIO + 1, api.MaxIO + 2, 65536, math.MaxInt32, 1 << 32, 1<<32 + 1, 1<<32 + api.MaxIO, math.MaxInt - 1, math.MaxInt,
}

func TestMayOfEverySet(t *testing.T) { // P8.1
	for _, cbs := range lengths {
		for n := range sets {
			least := 0
			if ofRecords(n) {
				least = 1
			}
			want := together(n) && cbs >= least && cbs <= 4096
			if got := conv.May(set(n, cbs)); got != want {
				t.Errorf("May(%+v): %v; want %v", set(n, cbs), got, want)
			}
		}
	}
}

// How many may be is reckoned by hand: 9 sets of codes and records, 3 of cases, 2 of Swab; without a Cbs 1, 3 and 2.
func TestHowManyMayBe(t *testing.T) { // P8.1
	for _, q := range []struct{ cbs, want int }{{-1, 0}, {0, 6}, {1, 54}, {api.MaxIO, 54}, {api.MaxIO + 1, 0}} {
		got := 0
		for n := range sets {
			if conv.May(set(n, q.cbs)) {
				got++
			}
		}
		if got != q.want || len(mays(q.cbs)) != q.want && q.want > 0 {
			t.Errorf("Cbs %d: %d sets, here %d; want %d", q.cbs, got, len(mays(q.cbs)), q.want)
		}
	}
}

func TestMayOneByOne(t *testing.T) { // P8.1
	for i, q := range []struct {
		c    api.Convs
		want bool
	}{
		{api.Convs{}, true},
		{api.Convs{Swab: true}, true},
		{api.Convs{Lcase: true}, true},
		{api.Convs{Ucase: true}, true},
		{api.Convs{Lcase: true, Ucase: true}, false},
		{api.Convs{Swab: true, Ucase: true, Cbs: api.MaxIO}, true},
		{api.Convs{Swab: true, Ucase: true, Cbs: api.MaxIO + 1}, false},
		{api.Convs{Swab: true, Ucase: true, Cbs: -1}, false},
		{api.Convs{Block: true}, false},
		{api.Convs{Unblock: true}, false},
		{api.Convs{Ascii: true}, false},
		{api.Convs{Ebcdic: true}, false},
		{api.Convs{Ibm: true}, false},
		{api.Convs{Ibm: true, Cbs: -1}, false},
		{api.Convs{Block: true, Cbs: 1}, true},
		{api.Convs{Unblock: true, Cbs: 1}, true},
		{api.Convs{Ascii: true, Cbs: 1}, true},
		{api.Convs{Ebcdic: true, Cbs: 1}, true},
		{api.Convs{Ibm: true, Cbs: api.MaxIO}, true},
		{api.Convs{Ibm: true, Cbs: api.MaxIO + 1}, false},
		{api.Convs{Block: true, Unblock: true, Cbs: 1}, false},
		{api.Convs{Ascii: true, Block: true, Cbs: 1}, false},
		{api.Convs{Ascii: true, Unblock: true, Cbs: 1}, true},
		{api.Convs{Ebcdic: true, Block: true, Cbs: 1}, true},
		{api.Convs{Ebcdic: true, Unblock: true, Cbs: 1}, false},
		{api.Convs{Ibm: true, Block: true, Cbs: 1}, true},
		{api.Convs{Ibm: true, Unblock: true, Cbs: 1}, false},
		{api.Convs{Ascii: true, Ebcdic: true, Cbs: 1}, false},
		{api.Convs{Ascii: true, Ibm: true, Cbs: 1}, false},
		{api.Convs{Ebcdic: true, Ibm: true, Cbs: 1}, false},
		{api.Convs{Ascii: true, Ebcdic: true, Ibm: true, Cbs: 1}, false},
	} {
		if got := conv.May(q.c); got != q.want {
			t.Errorf("%d: May(%+v): %v", i, q.c, got)
		}
	}
}

// Pad asks neither whether the conversions may be nor what Cbs is.
func TestPadOfEverySet(t *testing.T) { // P8.1
	for _, cbs := range lengths {
		for n := range sets {
			var want byte
			if ofRecords(n) {
				want = 32
			}
			if got := conv.Pad(set(n, cbs)); got != want {
				t.Errorf("Pad(%+v): %d; want %d", set(n, cbs), got, want)
			}
		}
	}
}

// A text in which every conversion would change something.
const telling = "aBz\n\nlonger than a record is\n  x  \n\x00\xff\x40\x25\xC1\n  "

func TestWhatMayNotBeIsNone(t *testing.T) { // P8.2, P8.3
	for _, cbs := range lengths {
		for n := range sets {
			c := set(n, cbs)
			if together(n) && cbs <= api.MaxIO && (cbs > 0 || cbs == 0 && !ofRecords(n)) {
				continue
			}
			v := conv.New(c)
			for range 2 {
				checkPut(t, v, telling, telling)
				checkPut(t, v, "a", "a")
				checkPut(t, v, "", "")
				checkEnd(t, v, "")
				checkCut(t, v, 0)
			}
			checkAll(t, c, "ab\n "+telling, "a", "b\n ", telling)
			if t.Failed() {
				t.Fatalf("%+v", c)
			}
		}
	}
}

// Without records Cbs changes nothing.
func TestCbsWithoutRecords(t *testing.T) { // P8.2
	for _, cbs := range []int{0, 1, 3, api.MaxIO} {
		v := conv.New(api.Convs{Cbs: cbs})
		checkPut(t, v, telling, telling)
		checkEnd(t, v, "")
		checkCut(t, v, 0)
		v = conv.New(api.Convs{Ucase: true, Cbs: cbs})
		checkPut(t, v, "ab\ncdef\n  ", "AB\nCDEF\n  ")
		checkEnd(t, v, "")
		checkCut(t, v, 0)
	}
}

func TestEachPartAlone(t *testing.T) { // P8.2
	for i, q := range []struct {
		c             api.Convs
		in, put, ends string
		cut           int
	}{
		{api.Convs{}, "aB\n 1", "aB\n 1", "", 0},
		{api.Convs{Swab: true}, "abcd", "badc", "", 0},
		{api.Convs{Swab: true}, "abcde", "badc", "e", 0},
		{api.Convs{Lcase: true}, "aBZ@[`{\xC1\n", "abz@[`{\xC1\n", "", 0},
		{api.Convs{Ucase: true}, "Abz@[`{\x81\n", "ABZ@[`{\x81\n", "", 0},
		{api.Convs{Block: true, Cbs: 3}, "a\n\nabc\nabcd\nab", "a     abcabc", "ab ", 1},
		{api.Convs{Unblock: true, Cbs: 3}, "a  abc    b", "a\nabc\n\n", " b\n", 0},
		{api.Convs{Ascii: true, Cbs: 3}, "\xC1\x40\x40\xF1\x25\x5A\x40\x81", "A\n1\n!\n", " a\n", 0},
		{api.Convs{Ascii: true, Unblock: true, Cbs: 3}, "\xC1\x40\x40\xF1\x25\x5A\x40\x81", "A\n1\n!\n", " a\n", 0},
		{api.Convs{Ebcdic: true, Cbs: 3}, "A\n^~1x\n!", "\xC1\x40\x40\x9A\x5F\xF1", "\x5A\x40\x40", 1},
		{api.Convs{Ebcdic: true, Block: true, Cbs: 3}, "A\n^~1x\n!", "\xC1\x40\x40\x9A\x5F\xF1", "\x5A\x40\x40", 1},
		{api.Convs{Ibm: true, Cbs: 3}, "A\n^~1x\n!", "\xC1\x40\x40\x5F\xA1\xF1", "\x5A\x40\x40", 1},
		{api.Convs{Ibm: true, Block: true, Cbs: 3}, "A\n^~1x\n!", "\xC1\x40\x40\x5F\xA1\xF1", "\x5A\x40\x40", 1},
	} {
		v := conv.New(q.c)
		checkPut(t, v, q.in, q.put)
		checkEnd(t, v, q.ends)
		checkCut(t, v, q.cut)
		checkAll(t, q.c, q.put+q.ends, q.in)
		if t.Failed() {
			t.Fatalf("%d: %+v", i, q.c)
		}
	}
}

// Each byte goes by the tables of tab, and by no others.
func TestEachByteByEachTable(t *testing.T) { // P8.2
	for i := range 256 {
		in := string([]byte{byte(i)})
		checkAll(t, api.Convs{}, in, in)
		checkAll(t, api.Convs{Swab: true}, in, in)
		for _, q := range []struct {
			c api.Convs
			t [256]byte
		}{{api.Convs{Lcase: true}, tab.Lower()}, {api.Convs{Ucase: true}, tab.Upper()}} {
			checkAll(t, q.c, string([]byte{q.t[i]}), in)
		}
		for _, q := range []struct {
			c api.Convs
			t [256]byte
		}{{api.Convs{Ebcdic: true, Cbs: 1}, tab.Ebcdic()}, {api.Convs{Ibm: true, Cbs: 1}, tab.Ibm()}} {
			if want := string([]byte{q.t[i]}); i != 10 {
				checkAll(t, q.c, want, in)
				checkAll(t, q.c, want, in, "\n")
			} else {
				checkAll(t, q.c, "\x40\x40", in, in)
			}
		}
		if want := tab.Ascii()[i]; want != 32 {
			checkAll(t, api.Convs{Ascii: true, Cbs: 1}, string([]byte{want, '\n'}), in)
		} else {
			checkAll(t, api.Convs{Ascii: true, Cbs: 1}, "\n", in)
		}
	}
}

// Another order would tell something else in each of these.
func TestOneBehindTheOther(t *testing.T) { // P8.2
	for i, q := range []struct {
		c        api.Convs
		in, want string
	}{
		// Pairs ahead of records.
		{api.Convs{Swab: true, Block: true, Cbs: 2}, "a\nb", "  ab"},
		{api.Convs{Swab: true, Block: true, Cbs: 3}, "ab\n", "ba "},
		{api.Convs{Swab: true, Block: true, Cbs: 3}, "\nab\nc", "a     bc "},
		{api.Convs{Swab: true, Unblock: true, Cbs: 3}, "a b", " ab\n"},
		{api.Convs{Swab: true, Unblock: true, Cbs: 2}, "a  bc", " a\nb\nc\n"},
		{api.Convs{Swab: true, Ascii: true, Cbs: 2}, "\x40\x81\x81\x40\x40", "a\n a\n\n"},
		{api.Convs{Swab: true, Ebcdic: true, Cbs: 2}, "\na", "\x81\x40"},
		// The code ahead of case: as EBCDIC, these bytes are no letters, or others.
		{api.Convs{Ascii: true, Lcase: true, Cbs: 4}, "\xC1\x81\xE9\xF0", "aaz0\n"},
		{api.Convs{Ascii: true, Ucase: true, Cbs: 4}, "\xC1\x81\xA9\xF0", "AAZ0\n"},
		{api.Convs{Ascii: true, Ucase: true, Cbs: 4}, "\x6B\x6C\x61\x79", ",%/`\n"},
		{api.Convs{Ascii: true, Lcase: true, Cbs: 4}, "\x4B\x4C\x50\x5A", ".<&!\n"},
		// The code ahead of records: 40 is a space by then, and 20 none any more.
		{api.Convs{Ascii: true, Cbs: 3}, "\x81\x40\x40\x81\x20\x20", "a\na\x80\x80\n"},
		// Case ahead of EBCDIC.
		{api.Convs{Ebcdic: true, Ucase: true, Cbs: 2}, "aZ\n", "\xC1\xE9"},
		{api.Convs{Ebcdic: true, Lcase: true, Cbs: 2}, "aZ\n", "\x81\xA9"},
		{api.Convs{Ibm: true, Ucase: true, Cbs: 2}, "aZ\n", "\xC1\xE9"},
		{api.Convs{Ibm: true, Lcase: true, Cbs: 2}, "aZ\n", "\x81\xA9"},
		// Records ahead of EBCDIC: a byte that is 10 behind it, and not ahead, ends no line; what fills up is 40.
		{api.Convs{Ebcdic: true, Cbs: 3}, "\n%\n", "\x40\x40\x40\x6C\x40\x40"},
		{api.Convs{Ibm: true, Cbs: 3}, "\n%\n", "\x40\x40\x40\x6C\x40\x40"},
		// All at once.
		{api.Convs{Swab: true, Ucase: true, Block: true, Ebcdic: true, Cbs: 3}, "ba\n^c", "\xC1\xC2\x9A\xC3\x40\x40"},
		{api.Convs{Swab: true, Lcase: true, Block: true, Ibm: true, Cbs: 2}, "BA^CD", "\x81\x82"},
		{api.Convs{Swab: true, Lcase: true, Unblock: true, Ascii: true, Cbs: 3}, "\xC2\xC1\x40\x40\xD1", "ab\n j\n"},
		{api.Convs{Swab: true, Ucase: true}, "abc", "BAC"},
	} {
		checkAll(t, q.c, q.want, q.in)
		if t.Failed() {
			t.Fatalf("%d: %+v", i, q.c)
		}
	}
}

func TestPutOfNothing(t *testing.T) { // P8.2, R4
	for _, none := range [][]byte{nil, {}, make([]byte, 0, 8), []byte("ab\n\n")[4:], []byte("\n\n\n\n")[:0]} {
		for _, c := range mays(3) {
			v := conv.New(c)
			nothing := func() {
				t.Helper()
				if got := v.Put(none); len(got) != 0 {
					t.Errorf("%+v: Put of nothing: %q", c, got)
				}
			}
			nothing()
			checkEnd(t, v, "")
			nothing()
			first := v.Put([]byte("a"))
			nothing()
			nothing()
			second := v.Put([]byte("b\nc"))
			nothing()
			got := append(append(first, second...), v.End()...)
			nothing()
			if want, _ := whole(c, []byte("ab\nc"), true); !bytes.Equal(got, want) {
				t.Errorf("%+v: %q; want %q", c, got, want)
			}
			checkEnd(t, v, "")
			checkCut(t, v, 0)
		}
	}
}

func TestWhatIsKeptBack(t *testing.T) { // P8.2
	v := conv.New(api.Convs{Swab: true, Ucase: true})
	checkPut(t, v, "a", "")
	checkPut(t, v, "b", "BA")
	checkPut(t, v, "cde", "DC")
	checkPut(t, v, "fg", "FE")
	checkEnd(t, v, "G")

	v = conv.New(api.Convs{Swab: true, Lcase: true, Block: true, Cbs: 3})
	checkPut(t, v, "A", "")
	checkPut(t, v, "B", "")
	checkPut(t, v, "\n", "")
	checkPut(t, v, "C", "bac")
	checkPut(t, v, "D", "")
	checkEnd(t, v, "d  ")

	v = conv.New(api.Convs{Swab: true, Ebcdic: true, Cbs: 2})
	checkPut(t, v, "\n", "")
	checkPut(t, v, "A", "\xC1\x40")
	checkPut(t, v, "\n", "")
	checkEnd(t, v, "\x40\x40")

	v = conv.New(api.Convs{Swab: true, Ascii: true, Ucase: true, Cbs: 3})
	checkPut(t, v, "\x81", "")
	checkPut(t, v, "\x82\x83", "")
	checkPut(t, v, "\x40\x84", "BA\n")
	checkEnd(t, v, "CD\n")
}

// The Swab's last byte ends a line, fills a record, or makes a line too long, ahead of the end of these.
func TestEndGoesThroughAllBehind(t *testing.T) { // P8.2
	for i, q := range []struct {
		c             api.Convs
		in, put, ends string
		cut           int
	}{
		{api.Convs{Swab: true, Block: true, Cbs: 3}, "ab\n", "", "ba ", 0},
		{api.Convs{Swab: true, Block: true, Cbs: 3}, "\n", "", "   ", 0},
		{api.Convs{Swab: true, Block: true, Cbs: 3}, "abc", "", "bac", 0},
		{api.Convs{Swab: true, Block: true, Cbs: 2}, "abc", "", "ba", 1},
		{api.Convs{Swab: true, Block: true, Cbs: 2}, "abcd\n", "", "ba", 1},
		{api.Convs{Swab: true, Block: true, Cbs: 2}, "a\nb", "  ", "ab", 0},
		{api.Convs{Swab: true, Ucase: true, Ibm: true, Cbs: 2}, "ab~", "", "\xC2\xC1", 1},
		{api.Convs{Swab: true, Ucase: true, Ibm: true, Cbs: 3}, "ab~", "", "\xC2\xC1\xA1", 0},
		{api.Convs{Swab: true, Lcase: true, Ebcdic: true, Cbs: 4}, "AB~", "", "\x82\x81\x5F\x40", 0},
		{api.Convs{Swab: true, Unblock: true, Cbs: 3}, "abc", "", "bac\n", 0},
		{api.Convs{Swab: true, Unblock: true, Cbs: 3}, "ab ", "", "ba\n", 0},
		{api.Convs{Swab: true, Unblock: true, Cbs: 2}, "abc", "ba\n", "c\n", 0},
		{api.Convs{Swab: true, Unblock: true, Cbs: 1}, "abc", "b\na\n", "c\n", 0},
		{api.Convs{Swab: true, Unblock: true, Cbs: 4}, "abc", "", "bac\n", 0},
		{api.Convs{Swab: true, Ascii: true, Ucase: true, Cbs: 2}, "\x40\x81\x82", "A\n", "B\n", 0},
		{api.Convs{Swab: true, Ascii: true, Cbs: 3}, "\x81\x82\x40", "", "ba\n", 0},
		{api.Convs{Block: true, Cbs: 2}, "abc", "", "ab", 1},
		{api.Convs{Block: true, Cbs: 2}, "abc\n", "ab", "", 1},
		{api.Convs{Unblock: true, Cbs: 2}, "abc", "ab\n", "c\n", 0},
		{api.Convs{Swab: true, Lcase: true}, "ABC", "ba", "c", 0},
	} {
		v := conv.New(q.c)
		// Behind the first End it is as a new one, but for what was cut.
		for round := range 3 {
			checkPut(t, v, q.in, q.put)
			checkEnd(t, v, q.ends)
			checkCut(t, v, q.cut*(round+1))
		}
		if t.Failed() {
			t.Fatalf("%d: %+v", i, q.c)
		}
	}
}

func TestCut(t *testing.T) { // P8.2
	v := conv.New(api.Convs{Block: true, Cbs: 2})
	checkCut(t, v, 0)
	checkEnd(t, v, "")
	checkCut(t, v, 0)
	checkPut(t, v, "ab\nabc\n\nabcd\nabc", "abab  ab")
	checkCut(t, v, 2)
	checkPut(t, v, "d", "")
	checkCut(t, v, 2)
	checkEnd(t, v, "ab")
	checkCut(t, v, 3)
	checkPut(t, v, "xy\n", "xy")
	checkEnd(t, v, "")
	checkCut(t, v, 3)
	for i := range 300 {
		checkPut(t, v, "xyz", "")
		checkEnd(t, v, "xy")
		checkCut(t, v, 4+i)
	}
	for _, c := range mays(1) {
		v := conv.New(c)
		want := 0
		if c.Block || c.Ebcdic || c.Ibm {
			want = 3
		}
		v.Put([]byte("abcd\nefgh\n"))
		v.Put([]byte("xyz"))
		v.End()
		checkCut(t, v, want)
		v.End()
		checkCut(t, v, want)
		if t.Failed() {
			t.Fatalf("%+v", c)
		}
	}
}

// history is a Conv, and beside it all that went in since the last End.
type history struct {
	v    *conv.Conv
	c    api.Convs
	went []byte
	cut  int
}

func newHistory(c api.Convs) *history { return &history{v: conv.New(c), c: c} }

// asked holds an answer against what it should be; no one needs it any more then.
func (h *history) asked(t *testing.T, deed string, got, want []byte, cut int) {
	if !bytes.Equal(got, want) || h.v.Cut() != cut {
		t.Errorf("%+v behind %q, %s: %q, cut %d; want %q, %d", h.c, h.went, deed, got, h.v.Cut(), want, cut)
	}
	spoil(got)
}

func (h *history) put(t *testing.T, b string) {
	came, _ := whole(h.c, h.went, false)
	now := append(slices.Clone(h.went), b...)
	comes, cut := whole(h.c, now, false)
	in := []byte(b)
	h.asked(t, "Put "+b, h.v.Put(in), comes[len(came):], h.cut+cut)
	spoil(in)
	h.went = now
}

func (h *history) end(t *testing.T) {
	came, _ := whole(h.c, h.went, false)
	comes, cut := whole(h.c, h.went, true)
	h.cut += cut
	h.asked(t, "End", h.v.End(), comes[len(came):], h.cut)
	h.went = nil
}

// The deeds of short histories; the first is an End.
var deeds = []string{"", "a", "\n", "B ", "^\nc~d", "\x25\x40\xC1"}

func (h *history) deed(t *testing.T, n int) {
	if n == 0 {
		h.end(t)
	} else {
		h.put(t, deeds[n])
	}
}

func TestAllShortHistories(t *testing.T) { // P8.2, R2
	const long = 4
	all := 1
	for range long {
		all *= len(deeds)
	}
	for _, cbs := range []int{1, 3} {
		for _, c := range mays(cbs) {
			for n := range all {
				h := newHistory(c)
				for range long {
					h.deed(t, n%len(deeds))
					n /= len(deeds)
				}
				h.end(t)
				h.end(t)
			}
			if t.Failed() {
				return
			}
		}
	}
}

func TestTwoHistoriesSideBySide(t *testing.T) { // P8.2, R2
	some := []api.Convs{
		{Swab: true, Block: true, Cbs: 2}, {Swab: true, Ucase: true, Ebcdic: true, Cbs: 3}, {Swab: true, Unblock: true, Cbs: 2}, {Lcase: true, Ascii: true, Cbs: 3}, {Swab: true},
	}
	all := len(deeds) * len(deeds) * len(deeds) * len(deeds)
	for _, c := range some {
		for _, d := range some {
			for n := range all {
				a, b := newHistory(c), newHistory(d)
				for range 2 {
					a.deed(t, n%len(deeds))
					n /= len(deeds)
					b.deed(t, n%len(deeds))
					n /= len(deeds)
					a.put(t, "x")
					b.put(t, "yzv\nw")
				}
				b.end(t)
				a.end(t)
			}
			if t.Failed() {
				return
			}
		}
	}
}

// All ways to cut some bytes into pieces; All is asked of the same pieces.
func TestAllCutsOfAFewBytes(t *testing.T) { // P8.2, P8.3
	const all = "aB\nc d~\n\x40"
	for _, cbs := range []int{1, 2, 3, 20} {
		for _, c := range mays(cbs) {
			want, _ := whole(c, []byte(all), true)
			for cuts := range 1 << (len(all) - 1) {
				h := newHistory(c)
				var pieces []string
				from := 0
				for to := 1; to <= len(all); to++ {
					if to == len(all) || cuts>>(to-1)&1 == 1 {
						pieces = append(pieces, all[from:to])
						h.put(t, all[from:to])
						from = to
					}
				}
				h.end(t)
				checkAll(t, c, string(want), pieces...)
			}
			if t.Failed() {
				return
			}
		}
	}
}

// mixed is n bytes, nearly all bytes among them, with bytes 32 and 64 in runs, and lines of 0 to some 2*cbs bytes.
func mixed(n, cbs int) []byte {
	b := make([]byte, n)
	for i := range b {
		b[i] = byte(i ^ i>>8*37)
		switch {
		case i/13%5 == 1:
			b[i] = ' '
		case i/17%7 == 2:
			b[i] = 64
		case b[i] == 10:
			b[i] = 11
		}
	}
	for i, k := 0, 0; i < n; i, k = i+1+k*k*cbs/5%(2*cbs+2), k+1 {
		b[i] = 10
	}
	return b
}

// checkPieces asks for want and cut when all goes in by pieces of step bytes.
func checkPieces(t *testing.T, c api.Convs, all []byte, step int, want []byte, cut int) {
	t.Helper()
	v := conv.New(c)
	var out []byte
	var pieces [][]byte
	for from := 0; from < len(all); from += step {
		piece := all[from:min(from+step, len(all))]
		out = append(out, v.Put(piece)...)
		pieces = append(pieces, piece)
	}
	out = append(out, v.End()...)
	if !bytes.Equal(out, want) || v.Cut() != cut {
		t.Errorf("%+v, pieces of %d: %d bytes, cut %d; want %d, %d", c, step, len(out), v.Cut(), len(want), cut)
	}
	if got := conv.All(c, pieces...); !bytes.Equal(got, want) {
		t.Errorf("%+v, All of pieces of %d: %d bytes; want %d", c, step, len(got), len(want))
	}
}

func TestManyBytesInPieces(t *testing.T) { // P8.2, P8.3
	for _, q := range []struct{ cbs, n int }{{1, 2001}, {13, 2001}, {80, 3000}, {api.MaxIO - 1, 30001}, {api.MaxIO, 30001}} {
		all := mixed(q.n, q.cbs)
		for _, c := range mays(q.cbs) {
			want, cut := whole(c, all, true)
			if cut == 0 && (c.Block || c.Ebcdic || c.Ibm) {
				t.Errorf("%+v: no line is cut", c)
			}
			for _, step := range []int{1, 2, 7, 80, 4095, 4096, 4097, q.n} {
				checkPieces(t, c, all, step, want, cut)
			}
		}
		if !bytes.Equal(all, mixed(q.n, q.cbs)) {
			t.Error("what went in is changed")
		}
	}
}

func TestAllOfAnyNumberOfLists(t *testing.T) { // P8.3, R4
	for _, cbs := range []int{0, 1, 3, api.MaxIO} {
		for _, c := range mays(cbs) {
			checkAll(t, c, "")
			checkAll(t, c, "", "")
			checkAll(t, c, "", "", "", "")
			for _, none := range [][][]byte{nil, {}, {nil}, {nil, {}, nil}, make([][]byte, 0, 4)} {
				if got := conv.All(c, none...); len(got) != 0 {
					t.Errorf("%+v: All of nothing: %q", c, got)
				}
			}
			want, _ := whole(c, []byte("aB\nc"), true)
			checkAll(t, c, string(want), "aB\nc")
			checkAll(t, c, string(want), "a", "B", "\n", "c")
			checkAll(t, c, string(want), "", "aB", "", "\nc", "")
			if got := conv.All(c, nil, []byte("aB\n"), nil, []byte("c"), nil); !bytes.Equal(got, want) {
				t.Errorf("%+v: All with nil lists: %q; want %q", c, got, want)
			}
			if t.Failed() {
				return
			}
		}
	}
}

// Each All is one of its own: nothing stays of the one ahead.
func TestAllAgain(t *testing.T) { // P8.3
	c := api.Convs{Swab: true, Block: true, Cbs: 4}
	for range 3 {
		checkAll(t, c, "bac ", "abc")
		checkAll(t, c, "badc", "abcde")
		checkAll(t, c, "")
	}
}

func TestManyLists(t *testing.T) { // P8.3
	var l [][]byte
	for i := range 2000 {
		l = append(l, []byte{byte(i), byte(i >> 8)}[:i%3])
	}
	for _, c := range mays(5) {
		want, _ := whole(c, bytes.Join(l, nil), true)
		if got := conv.All(c, l...); !bytes.Equal(got, want) {
			t.Errorf("%+v: %d bytes; want %d", c, len(got), len(want))
		}
	}
}

func TestArgumentsStay(t *testing.T) { // R2
	const text = "ab \n\ncDef  \n ghij"
	for _, c := range mays(3) {
		for n := range len(text) + 1 {
			in := []byte(text)
			v := conv.New(c)
			came := [][]byte{v.Put(in[:n]), v.Put(in[n/2 : n]), v.End(), conv.All(c, in[:n]), conv.All(c, in[:n/2], in[n/2:n])}
			for _, b := range came {
				spoil(b)
				_ = append(b, "xyz\n"...)
			}
			v.Put([]byte("xyz\nxyz"))
			v.End()
			if string(in) != text {
				t.Fatalf("%+v, %d bytes: changed to %q", c, n, in)
			}
		}
	}
}

// The list of lists stays, too, and what lies in its spare room.
func TestTheListOfListsStays(t *testing.T) { // P8.3, R2, R5
	for _, c := range mays(3) {
		l := [][]byte{[]byte("ab"), nil, []byte("c\nd"), []byte("efg"), []byte("hi")}
		want, _ := whole(c, []byte("abc\nd"), true)
		got := conv.All(c, l[:3]...)
		if !bytes.Equal(got, want) {
			t.Errorf("%+v: %q; want %q", c, got, want)
		}
		spoil(got)
		if l[1] != nil || string(bytes.Join(l, []byte("|"))) != "ab||c\nd|efg|hi" {
			t.Errorf("%+v: changed to %q", c, l)
		}
	}
}

func TestSpareRoomIsNotRead(t *testing.T) { // R5
	for _, c := range mays(2) {
		in := []byte("aB\ncd\n\n  ~")
		var went []byte
		v := conv.New(c)
		for _, p := range []struct{ from, to int }{{0, 1}, {2, 2}, {4, 5}, {1, 4}, {9, 10}, {5, 6}, {0, 2}} {
			came, _ := whole(c, went, false)
			went = append(went, in[p.from:p.to]...)
			comes, _ := whole(c, went, false)
			if got := v.Put(in[p.from:p.to]); !bytes.Equal(got, comes[len(came):]) {
				t.Errorf("%+v, Put of %d to %d: %q; want %q", c, p.from, p.to, got, comes[len(came):])
			}
		}
	}
}

// What was handed in is another's again, as soon as a call has answered.
func TestWhatWentInMayChange(t *testing.T) { // R2
	for _, c := range mays(4) {
		v := conv.New(c)
		var out []byte
		for _, piece := range []string{"abc", "D", "e\nf", "~"} {
			in := append(make([]byte, 0, 32), piece...)
			got := v.Put(in)
			spoil(in)
			out = append(out, got...)
		}
		out = append(out, v.End()...)
		want, _ := whole(c, []byte("abcDe\nf~"), true)
		if !bytes.Equal(out, want) {
			t.Errorf("%+v: %q; want %q", c, out, want)
		}
		in := []byte("abcDe\nf~")
		all := conv.All(c, in)
		spoil(in)
		if !bytes.Equal(all, want) {
			t.Errorf("%+v: All: %q; want %q", c, all, want)
		}
	}
}

// answers is what many calls answer, and what was handed in.
func answers(c api.Convs) [][]byte {
	const text = "abc\n\n  d eFghi\nxyz vw\nq"
	v := conv.New(c)
	var l [][]byte
	for n := range len(text) + 1 {
		in := []byte(text)
		l = append(l, v.Put(in[:n]), v.Put(in[n:]), v.End(), v.End(), conv.All(c, in), conv.All(c), in)
	}
	return l
}

func TestAnswersShareNothing(t *testing.T) { // R2
	for _, cbs := range []int{1, 3, 40} {
		for _, c := range mays(cbs) {
			came := answers(c)
			for i, b := range came {
				fill(b, byte(i))
			}
			for i, b := range came {
				for _, one := range b[:cap(b)] {
					if one != byte(i) {
						t.Fatalf("%+v: list %d shares memory with list %d", c, i, one)
					}
				}
			}
		}
	}
}

// What is kept back is apart from answers: neither feels what is done to the other.
func TestWhatIsKeptBackIsApartFromAnswers(t *testing.T) { // R2
	for _, cbs := range []int{3, 6, 40} {
		for _, c := range mays(cbs) {
			v, plain := conv.New(c), conv.New(c)
			var came, were [][]byte
			keep := func(got, want []byte) {
				t.Helper()
				if !bytes.Equal(got, want) {
					t.Errorf("%+v: %q; want %q", c, got, want)
				}
				came, were = append(came, got), append(were, slices.Clone(got))
			}
			for _, piece := range []string{"ab\nCd  ", "efg", "\n", "\nhijklmnop\n", " ", "q"} {
				keep(v.Put([]byte(piece)), plain.Put([]byte(piece)))
			}
			keep(v.End(), plain.End())
			v.Put([]byte("xyz"))
			plain.Put([]byte("xyz"))
			for i := range came {
				if !bytes.Equal(came[i], were[i]) {
					t.Errorf("%+v: answer %d is changed to %q; it was %q", c, i, came[i], were[i])
				}
				spoil(came[i])
			}
			keep(v.End(), plain.End())
		}
	}
}

func TestWhatCameOutGoesInAgain(t *testing.T) { // P8.2, P8.3, R2
	v := conv.New(api.Convs{Swab: true, Ucase: true})
	out := v.Put([]byte("abcde"))
	again := v.Put(out)
	if string(out) != "BADC" || string(again) != "BEDA" {
		t.Errorf("%q, %q", out, again)
	}
	spoil(out)
	checkEnd(t, v, "C")

	const text = "a\n\nbcd\n ^f\ng h\n"
	there := conv.All(api.Convs{Ebcdic: true, Cbs: 5}, []byte(text))
	if back := conv.All(api.Convs{Ascii: true, Cbs: 5}, there); string(back) != text || len(there) != 25 {
		t.Errorf("to EBCDIC and back: %q by %q", back, there)
	}
	records := conv.All(api.Convs{Block: true, Cbs: 5}, []byte(text))
	if back := conv.All(api.Convs{Unblock: true, Cbs: 5}, records); string(back) != text || len(records) != 25 {
		t.Errorf("to records and back: %q by %q", back, records)
	}
}

func TestManyOfThem(t *testing.T) { // P8.2, R2
	var l []*history
	for _, c := range mays(4) {
		l = append(l, newHistory(c))
	}
	for i := range 60 {
		for j, h := range l {
			h.deed(t, (i*i+j*i+j)%len(deeds))
		}
	}
	for _, h := range l {
		h.end(t)
	}
}
