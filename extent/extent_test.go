package extent_test

import (
	"bytes"
	"maps"
	"math"
	"slices"
	"strconv"
	"testing"

	"salvor/api"
	"salvor/extent"
	"salvor/spare"
)

const (
	top  = 1 << 40   // the greatest size
	last = 1<<37 - 1 // the last block that a file may have
)

// mark is a byte that tells its place, and is not 0.
func mark(place int) byte { return byte(place%251) + 1 }

// marks are n bytes that tell their places, from pos on.
func marks(pos, n int) []byte {
	b := make([]byte, n)
	for i := range b {
		b[i] = mark(pos + i)
	}
	return b
}

// others are n bytes that are not 0, and unlike the marks of their places.
func others(pos, n int) []byte {
	b := marks(pos, n)
	for i := range b {
		b[i] ^= 128
		if b[i] == 0 {
			b[i] = 255
		}
	}
	return b
}

// ext is a block with bytes at its front.
func ext(no int, b ...byte) api.Ext {
	e := api.Ext{No: no}
	copy(e.B[:], b)
	return e
}

// full is a block whose bytes tell their places.
func full(no int) api.Ext { return ext(no, marks(no*8, 8)...) }

func content(size int, l ...api.Ext) api.Content { return api.Content{Size: size, L: l} }

// alike holds one content against another one without asking the package for it.
func alike(a, b api.Content) bool { return a.Size == b.Size && slices.Equal(a.L, b.L) }

func check(t *testing.T, what string, got api.Content, ok bool, want api.Content) {
	t.Helper()
	if !ok || !alike(got, want) {
		t.Errorf("%s is %v, %v; want %v", what, got, ok, want)
	}
}

func checkNone(t *testing.T, what string, got api.Content, ok bool) {
	t.Helper()
	if ok || got.Size != 0 || len(got.L) != 0 {
		t.Errorf("%s is %v, %v; want none", what, got, ok)
	}
}

func checkAt(t *testing.T, what string, got int, ok bool, want int, wantOK bool) {
	t.Helper()
	if got != want || ok != wantOK {
		t.Errorf("%s is %d, %v; want %d, %v", what, got, ok, want, wantOK)
	}
}

func checkRead(t *testing.T, c api.Content, pos, n int, want []byte) {
	t.Helper()
	if b := extent.Read(c, pos, n); !bytes.Equal(b, want) {
		t.Errorf("%v: Read(%d, %d) is %v; want %v", c, pos, n, b, want)
	}
}

func checkData(t *testing.T, c api.Content, pos, want int, wantOK bool) {
	t.Helper()
	at, ok := extent.Data(c, pos)
	checkAt(t, "Data from "+strconv.Itoa(pos), at, ok, want, wantOK)
}

func checkHole(t *testing.T, c api.Content, pos, want int, wantOK bool) {
	t.Helper()
	at, ok := extent.Hole(c, pos)
	checkAt(t, "Hole from "+strconv.Itoa(pos), at, ok, want, wantOK)
}

// window is how many places a model has.
const window = 64

// model is a file, asked place by place: it has those from base on, and nothing is there outside of them.
type model struct {
	base, size int
	b          [window]byte
	there      [window / 8]bool
}

// block is the number of the model's i-th block.
func (m *model) block(i int) int { return m.base/8 + i }

func (m *model) content() api.Content {
	c := api.Content{Size: m.size}
	for i, there := range m.there {
		if there {
			c.L = append(c.L, ext(m.block(i), m.b[i*8:i*8+8]...))
		}
	}
	return c
}

func (m *model) read(pos, n int) (out []byte) {
	if pos < 0 || n < 0 || n > 4096 {
		return nil
	}
	for i := range n {
		if pos+i >= m.size {
			break
		}
		out = append(out, m.b[pos+i-m.base])
	}
	return out
}

// fits tells whether n places from pos on can be a file's.
func fits(pos, n int) bool { return pos >= 0 && n >= 0 && n <= top && pos <= top-n }

func (m *model) write(pos int, b []byte) bool {
	if !fits(pos, len(b)) || len(b) > 4096 {
		return false
	}
	for i, x := range b {
		m.b[pos+i-m.base] = x
		m.there[(pos+i-m.base)/8] = true
		m.size = max(m.size, pos+i+1)
	}
	return true
}

func (m *model) truncate(size int) bool {
	if size < 0 || size > top {
		return false
	}
	m.size = size
	for i := range m.b {
		if m.base+i >= size {
			m.b[i] = 0
			if i%8 == 0 {
				m.there[i/8] = false
			}
		}
	}
	return true
}

func (m *model) allocate(pos, n int, keep bool) bool {
	if n < 1 || !fits(pos, n) || n > 32768 {
		return false
	}
	for i := range n {
		m.there[(pos+i-m.base)/8] = true
		if !keep {
			m.size = max(m.size, pos+i+1)
		}
	}
	return true
}

func (m *model) punch(pos, n int) bool {
	if n < 1 || !fits(pos, n) {
		return false
	}
	for i := range m.there {
		all := true
		for j := range 8 {
			if place := m.base + i*8 + j; place < pos || place-pos >= n {
				all = false
			} else {
				m.b[i*8+j] = 0
			}
		}
		if all {
			m.there[i] = false
		}
	}
	return true
}

// seek is the first place from pos on below the size that lies in a block that is there, or in one that is not.
func (m *model) seek(pos int, there bool) (int, bool) {
	for ; pos < m.size; pos++ {
		if m.there[(pos-m.base)/8] == there {
			return pos, true
		}
	}
	return 0, false
}

func (m *model) data(pos int) (int, bool) {
	if pos < 0 {
		return 0, false
	}
	return m.seek(pos, true)
}

func (m *model) hole(pos int) (int, bool) {
	if pos < 0 || pos >= m.size {
		return 0, false
	}
	if at, ok := m.seek(pos, false); ok {
		return at, true
	}
	return m.size, true
}

// models goes through all files of some sizes whose blocks from the from-th on of the window are there or not: all bytes below the size are marks.
func models(base, from, blocks, least, most int, see func(model)) {
	for size := least; size <= most; size++ {
		for mask := range 1 << blocks {
			m := model{base: base, size: size}
			for i := range blocks {
				if mask>>i&1 == 0 {
					continue
				}
				m.there[from+i] = true
				for j := (from + i) * 8; j < (from+i)*8+8; j++ {
					if base+j < size {
						m.b[j] = mark(base + j)
					}
				}
			}
			see(m)
		}
	}
}

// low and high are small files, at the first places and at the last ones that there can be; around goes from ahead of their places to behind them.
func low(see func(model))  { models(0, 0, 4, 0, 34, see) }
func high(see func(model)) { models(top-window, 5, 3, top-27, top, see) }

func eachModel(see func(m model, from, to int)) {
	low(func(m model) { see(m, -2, 36) })
	high(func(m model) { see(m, top-28, top+2) })
}

func TestRunsOfTheChapter(t *testing.T) { // P11.1 to P11.4
	c, ok := extent.Write(api.Content{}, 20, []byte{1})
	check(t, "1 at 20", c, ok, content(21, ext(2, 0, 0, 0, 0, 1)))
	checkData(t, c, 0, 16, true)
	checkHole(t, c, 20, 21, true)
}

type may struct {
	name string
	c    api.Content
	want bool
}

// sizes are contents by their sizes, and by the bytes at these and behind.
func sizes() []may {
	return []may{
		{"zero", api.Content{}, true}, {"empty", api.Content{L: []api.Ext{}}, true},
		{"size -1", content(-1), false}, {"size -1, a block", content(-1, ext(0)), false}, {"size very small", content(math.MinInt), false},
		{"size 1", content(1), true}, {"size one less than the most", content(top - 1), true}, {"the most size", content(top), true},
		{"one more", content(top + 1), false}, {"one more, a block", content(top+1, full(0)), false},
		{"size very great", content(math.MaxInt), false}, {"size that goes round", content(1<<62 + 8), false},
		{"full to the size", content(5, ext(0, 1, 2, 3, 4, 5)), true}, {"a byte at the size", content(4, ext(0, 1, 2, 3, 4, 5)), false},
		{"a byte of 0 at the size", content(4, ext(0, 1, 2, 3, 4, 0)), true},
		{"the last byte of the last block", content(4, ext(0, 1, 2, 3, 4, 0, 0, 0, 1)), false},
		{"the last byte but for one at the size", content(7, ext(0, 1, 2, 3, 4, 5, 6, 7, 8)), false}, {"a full block", content(8, full(0)), true},
		{"begins at the size", content(8, ext(1)), true}, {"begins at the size, its first byte", content(8, ext(1, 7)), false}, {"begins at the size, its last", content(8, ext(1, 0, 0, 0, 0, 0, 0, 0, 7)), false},
		{"begins ahead of the size", content(9, ext(1, 7)), true}, {"its second byte", content(9, ext(1, 7, 7)), false},
		{"behind the size", content(0, ext(9)), true}, {"behind the size, a byte", content(0, ext(9, 1)), false}, {"behind the size, its last byte", content(71, ext(9, 0, 0, 0, 0, 0, 0, 0, 1)), false},
		{"behind the size, several", content(3, ext(0, 1, 2, 3), ext(1), ext(2), ext(last)), true}, {"a byte in the last of several", content(3, ext(0, 1, 2, 3), ext(1), ext(2), ext(last, 1)), false},
		{"a byte in the middle one of several", content(3, ext(0, 1, 2, 3), ext(1, 0, 4), ext(2)), false}, {"a byte at the size in the first one of several", content(3, ext(0, 1, 2, 3, 4), ext(1), ext(2)), false},
		{"full to the most size", content(top, full(0), full(last)), true}, {"a byte at the end of all", content(top-1, ext(last, 1, 2, 3, 4, 5, 6, 7, 8)), false},
		{"blocks of noughts", content(24, ext(0), ext(1), ext(2)), true},
	}
}

// numbers are contents by the numbers of their blocks.
func numbers() []may {
	return []may{
		{"one by one", content(30, full(0), full(1), full(2)), true}, {"with holes", content(100, full(1), full(3), full(11)), true},
		{"twice", content(30, full(1), full(1)), false}, {"twice, other bytes", content(30, full(1), ext(1)), false}, {"falls", content(30, full(2), full(1)), false},
		{"twice at the end", content(30, full(0), full(1), full(2), full(2)), false}, {"falls in the middle", content(50, full(0), full(3), full(2), full(4)), false},
		{"falls at the end", content(50, full(1), full(2), full(3), full(0)), false}, {"stays behind the size", content(0, ext(5), ext(5)), false}, {"0 twice", content(0, ext(0), ext(0)), false},
		{"No -1", content(0, ext(-1)), false}, {"No -1, the most size", content(top, ext(-1)), false}, {"No -1 ahead", content(9, ext(-1), ext(0)), false}, {"No -2, -1", content(9, ext(-2), ext(-1)), false},
		{"No 0", content(0, ext(0)), true}, {"No the last", content(0, ext(last)), true}, {"No the last, the most size", content(top, ext(last)), true},
		{"No one more", content(0, ext(last+1)), false}, {"No one more, the most size", content(top, ext(last+1)), false}, {"No one more behind the last", content(top, ext(last), ext(last+1)), false},
		{"No very great", content(0, ext(math.MaxInt)), false}, {"No very small", content(0, ext(math.MinInt)), false}, {"very great, the most size", content(top, ext(math.MaxInt)), false},
		{"No whose product with 8 goes round to 0", content(8, ext(1<<61)), false}, {"to 8", content(16, ext(1<<61+1)), false}, {"from below", content(8, ext(-1<<61)), false}, {"to the least", content(8, ext(1<<60)), false},
		{"goes round, full", content(8, ext(1<<61, marks(0, 8)...)), false}, {"goes round at the end", content(16, full(0), ext(1<<61+1)), false}, {"falls to very small", content(16, full(0), ext(math.MinInt)), false},
	}
}

func TestMay(t *testing.T) { // P11.1
	for _, q := range slices.Concat(sizes(), numbers()) {
		if got := extent.May(q.c); got != q.want {
			t.Errorf("%s: May is %v", q.name, got)
		}
	}
}

// One byte that is not 0 is put at each place of each small file in turn: it may be there just below the size.
func TestMayPlaceByPlace(t *testing.T) { // P11.1
	models(0, 0, 3, 0, 26, func(m model) {
		for i := range 24 {
			if !m.there[i/8] {
				continue
			}
			x := m
			x.b[i] = 200
			if got := extent.May(x.content()); got != (i < m.size) {
				t.Fatalf("%v: May is %v", x.content(), got)
			}
		}
	})
}

func TestMayOfAllOrders(t *testing.T) { // P11.1
	nos := []int{-1, 0, 1, 2, last, last + 1}
	for _, i := range nos {
		for _, j := range nos {
			for _, k := range nos {
				want := 0 <= i && i < j && j < k && k <= last
				for _, size := range []int{0, 9, top} {
					if got := extent.May(content(size, ext(i), ext(j), ext(k))); got != want {
						t.Errorf("May of blocks %d, %d, %d is %v", i, j, k, got)
					}
				}
			}
		}
	}
}

func TestOfNoneThatMayBe(t *testing.T) { // P11.1
	for _, q := range slices.Concat(sizes(), numbers()) {
		if q.want {
			continue
		}
		for _, pos := range []int{0, 1, 8, 16, 72, top - 1} {
			if b := extent.Read(q.c, pos, 1); len(b) != 0 {
				t.Errorf("%s: Read is %v", q.name, b)
			}
			c, ok := extent.Write(q.c, pos, []byte{1})
			checkNone(t, q.name+": Write", c, ok)
			c, ok = extent.Write(q.c, pos, nil)
			checkNone(t, q.name+": Write of nothing", c, ok)
			c, ok = extent.Truncate(q.c, pos)
			checkNone(t, q.name+": Truncate", c, ok)
			c, ok = extent.Allocate(q.c, pos, 1, false)
			checkNone(t, q.name+": Allocate", c, ok)
			c, ok = extent.Allocate(q.c, pos, 1, true)
			checkNone(t, q.name+": Allocate, keep", c, ok)
			c, ok = extent.Punch(q.c, pos, 1)
			checkNone(t, q.name+": Punch", c, ok)
			at, ok := extent.Data(q.c, pos)
			checkAt(t, q.name+": Data", at, ok, 0, false)
			at, ok = extent.Hole(q.c, pos)
			checkAt(t, q.name+": Hole", at, ok, 0, false)
		}
		c, ok := extent.Truncate(q.c, 0)
		checkNone(t, q.name+": Truncate to 0", c, ok)
		c, ok = extent.Punch(q.c, 0, top)
		checkNone(t, q.name+": Punch of all", c, ok)
	}
}

func TestSame(t *testing.T) { // P11.1
	for i, q := range []struct {
		a, b api.Content
		want bool
	}{
		{content(0), content(0), true}, {api.Content{L: []api.Ext{}}, api.Content{}, true}, {content(5, []api.Ext{}...), content(5), true},
		{content(1), content(2), false}, {content(0), content(top), false}, {content(9, full(0)), content(10, full(0)), false},
		{content(30, full(0), full(2)), content(30, full(0), full(2)), true}, {content(30, full(0), full(2)), content(30, full(0), full(1)), false},
		{content(30, ext(0), ext(2)), content(30, ext(0), ext(3)), false}, {content(30, ext(1)), content(30, ext(2)), false},
		{content(9, ext(0, 1)), content(9, ext(0, 2)), false}, {content(9, ext(0, 0, 0, 0, 0, 0, 0, 0, 1)), content(9, ext(0)), false},
		{content(30, full(0), ext(1, 5), full(2)), content(30, full(0), ext(1, 6), full(2)), false},
		{content(0, ext(9)), content(0), false}, {content(30, full(0), ext(1)), content(30, full(0)), false}, {content(30, ext(0), full(1)), content(30, full(1)), false},
		{content(30, full(0), full(1)), content(30, full(0)), false},
		{content(-1, ext(3), ext(2)), content(-1, ext(3), ext(2)), true}, {content(-1, ext(3), ext(2)), content(-1, ext(2), ext(3)), false}, {content(-1), content(-2), false},
		{content(-1), content(0), false}, {content(top+1, ext(-5, 1)), content(top+1, ext(-5, 1)), true}, {content(top+1, ext(-5, 1)), content(top+1, ext(-5, 2)), false},
		{content(math.MinInt, ext(math.MaxInt)), content(math.MinInt, ext(math.MaxInt)), true}, {content(math.MinInt), content(math.MaxInt), false},
		{content(4, ext(0, 1, 2, 3, 4, 5)), content(4, ext(0, 1, 2, 3, 4)), false}, {content(0, ext(1), ext(1)), content(0, ext(1)), false},
	} {
		if extent.Same(q.a, q.b) != q.want || extent.Same(q.b, q.a) != q.want {
			t.Errorf("%d: Same is %v", i, !q.want)
		}
		if !extent.Same(q.a, q.a) || !extent.Same(q.b, q.b) {
			t.Errorf("%d: one is not the same as itself", i)
		}
	}
}

func TestSameOfEverySmallFile(t *testing.T) { // P11.1
	var l []api.Content
	models(0, 0, 3, 14, 18, func(m model) { l = append(l, m.content()) })
	for i, a := range l {
		for j, b := range l {
			if extent.Same(a, b) != (i == j) {
				t.Errorf("Same of %v and %v is %v", a, b, i != j)
			}
		}
		for k := range a.L {
			for at := range 8 {
				x := content(a.Size, slices.Clone(a.L)...)
				x.L[k].B[at] ^= 1
				if extent.Same(a, x) || extent.Same(x, a) {
					t.Errorf("Same of %v and %v", a, x)
				}
			}
		}
	}
}

func TestRead(t *testing.T) { // P11.2
	c := content(21, ext(0, 1, 2, 3), ext(2, 4, 5, 6, 7, 8), ext(5))
	noughts := func(n int) []byte { return make([]byte, n) }
	for _, q := range []struct {
		pos, n int
		want   []byte
	}{
		{0, 4, []byte{1, 2, 3, 0}}, {0, 1, []byte{1}}, {2, 16, slices.Concat([]byte{3}, noughts(13), []byte{4, 5})}, {10, 3, noughts(3)}, {7, 2, noughts(2)}, {15, 2, []byte{0, 4}},
		{18, 4096, []byte{6, 7, 8}}, {18, 3, []byte{6, 7, 8}}, {18, 2, []byte{6, 7}}, {20, 1, []byte{8}}, {20, 2, []byte{8}},
		{21, 1, nil}, {21, 4096, nil}, {22, 1, nil}, {40, 8, nil}, {47, 1, nil}, {top - 1, 1, nil}, {top, 1, nil}, {math.MaxInt, 1, nil}, {math.MaxInt, 4096, nil}, {math.MaxInt - 7, 8, nil}, {1 << 62, 1, nil},
		{0, 0, nil}, {5, 0, nil}, {21, 0, nil}, {math.MaxInt, 0, nil},
		{-1, 1, nil}, {-1, 2, nil}, {-1, 0, nil}, {-8, 16, nil}, {math.MinInt, 1, nil}, {math.MinInt, math.MinInt, nil}, {-1, 4096, nil},
		{0, -1, nil}, {16, -1, nil}, {0, math.MinInt, nil}, {-1, -1, nil}, {math.MaxInt, -1, nil},
		{0, 4097, nil}, {18, 4097, nil}, {20, 4097, nil}, {0, math.MaxInt, nil}, {1, math.MaxInt, nil}, {0, 1 << 32, nil}, {math.MaxInt, math.MaxInt, nil}, {21, 4097, nil},
	} {
		checkRead(t, c, q.pos, q.n, q.want)
	}
	checkRead(t, api.Content{}, 0, 1, nil)
	checkRead(t, content(0, ext(0), ext(1)), 0, 8, nil)
	checkRead(t, content(top), top-1, 4096, []byte{0})
	checkRead(t, content(top, full(last)), top-3, 3, marks(top-3, 3))
	checkRead(t, content(top, full(last)), top-10, 4096, append(noughts(2), marks(top-8, 8)...))
	checkRead(t, content(top-2, full(last-1)), top-9, 4096, append(marks(top-9, 1), noughts(6)...))
}

// long is a file of n bytes, of whose blocks each third is a hole.
func long(n int) (c api.Content, all []byte) {
	all = make([]byte, n)
	for k := 0; k*8 < n; k++ {
		if k%3 != 2 {
			copy(all[k*8:min(k*8+8, n)], marks(k*8, 8))
			c.L = append(c.L, ext(k, all[k*8:min(k*8+8, n)]...))
		}
	}
	c.Size = n
	return c, all
}

func TestReadOfTheMost(t *testing.T) { // P11.2
	for _, n := range []int{4095, 4096, 4097, 9001} {
		c, all := long(n)
		for _, pos := range []int{0, 1, 7, 8, 9, 16, 23, 24, n - 4097, n - 4096, n - 4095, n - 1} {
			for _, more := range []int{1, 9, 100, 4095, 4096} {
				if pos >= 0 {
					checkRead(t, c, pos, more, all[pos:min(pos+more, n)])
				}
			}
			checkRead(t, c, pos, 4097, nil)
		}
	}
}

func TestReadPlaceByPlace(t *testing.T) { // P11.2
	low(func(m model) {
		c := m.content()
		for pos := -2; pos <= 36; pos++ {
			for n := -1; n <= 36; n++ {
				if b := extent.Read(c, pos, n); !bytes.Equal(b, m.read(pos, n)) {
					t.Fatalf("%v: Read(%d, %d) is %v; want %v", c, pos, n, b, m.read(pos, n))
				}
			}
		}
	})
	high(func(m model) {
		c := m.content()
		for pos := top - 30; pos <= top+2; pos++ {
			for _, n := range []int{-1, 0, 1, 5, 8, 20, 4096} {
				if b := extent.Read(c, pos, n); !bytes.Equal(b, m.read(pos, n)) {
					t.Fatalf("%v: Read(%d, %d) is %v; want %v", c, pos, n, b, m.read(pos, n))
				}
			}
		}
	})
}

func TestWrite(t *testing.T) { // P11.2
	c := content(3, ext(0, 1, 2, 3), ext(4))
	for _, q := range []struct {
		name string
		pos  int
		b    []byte
		want api.Content
	}{
		{"one byte", 1, []byte{9}, content(3, ext(0, 1, 9, 3), ext(4))},
		{"the last one", 2, []byte{9}, content(3, ext(0, 1, 2, 9), ext(4))},
		{"one at the size", 3, []byte{9}, content(4, ext(0, 1, 2, 3, 9), ext(4))},
		{"within one block", 1, []byte{8, 9}, content(3, ext(0, 1, 8, 9), ext(4))},
		{"over the size", 2, []byte{7, 8, 9}, content(5, ext(0, 1, 2, 7, 8, 9), ext(4))},
		{"behind the size, with a gap", 6, []byte{9}, content(7, ext(0, 1, 2, 3, 0, 0, 0, 9), ext(4))},
		{"over the edge of two", 6, []byte{4, 5, 6}, content(9, ext(0, 1, 2, 3, 0, 0, 0, 4, 5), ext(1, 6), ext(4))},
		{"the last of a block", 7, []byte{9}, content(8, ext(0, 1, 2, 3, 0, 0, 0, 0, 9), ext(4))},
		{"the first of a block", 8, []byte{9}, content(9, ext(0, 1, 2, 3), ext(1, 9), ext(4))},
		{"a block of its own", 20, []byte{9}, content(21, ext(0, 1, 2, 3), ext(2, 0, 0, 0, 0, 9), ext(4))},
		{"in a block behind the size", 33, []byte{9}, content(34, ext(0, 1, 2, 3), ext(4, 0, 9))},
		{"over a block behind the size", 31, marks(31, 10), content(41, ext(0, 1, 2, 3), ext(3, 0, 0, 0, 0, 0, 0, 0, mark(31)), full(4), ext(5, mark(40)))},
		{"behind all", 48, []byte{9}, content(49, ext(0, 1, 2, 3), ext(4), ext(6, 9))},
		{"over all", 0, marks(0, 48), content(48, full(0), full(1), full(2), full(3), full(4), full(5))},
		{"0 over another byte", 0, []byte{0}, content(3, ext(0, 0, 2, 3), ext(4))},
		{"0 in a hole", 20, []byte{0}, content(21, ext(0, 1, 2, 3), ext(2), ext(4))},
		{"noughts over two holes", 14, []byte{0, 0, 0}, content(17, ext(0, 1, 2, 3), ext(1), ext(2), ext(4))},
		{"at the end of all", top - 1, []byte{9}, content(top, ext(0, 1, 2, 3), ext(4), ext(last, 0, 0, 0, 0, 0, 0, 0, 9))},
		{"none", 0, nil, c}, {"an empty list", 1, []byte{}, c}, {"none behind the size", 100, nil, c}, {"none at the size", 3, nil, c},
		{"none at the most size", top, nil, c}, {"none, one ahead", top - 1, []byte{}, c}, {"none at the edge of a block", 8, nil, c},
	} {
		got, ok := extent.Write(c, q.pos, q.b)
		check(t, q.name, got, ok, q.want)
		check(t, q.name+", what was handed in", c, true, content(3, ext(0, 1, 2, 3), ext(4)))
	}
}

func TestWriteRefused(t *testing.T) { // P11.2, R5
	c := content(9, full(0), ext(1, 1))
	for _, q := range []struct{ pos, n int }{
		{-1, 1}, {-1, 0}, {-1, 2}, {-8, 16}, {math.MinInt, 0}, {math.MinInt, 1}, {math.MinInt, 4097},
		{0, 4097}, {5, 4097}, {100, 4097}, {0, 65536}, {-1, 4097},
		{top, 1}, {top - 1, 2}, {top - 4095, 4096}, {top - 4096, 4097}, {top, 4096}, {top + 1, 1}, {top + 1, 0},
		{1 << 62, 1}, {1 << 62, 0}, {math.MaxInt, 0}, {math.MaxInt, 1}, {math.MaxInt, 2}, {math.MaxInt, 4096}, {math.MaxInt - 4095, 4096},
	} {
		got, ok := extent.Write(c, q.pos, make([]byte, q.n))
		checkNone(t, "Write of "+strconv.Itoa(q.n)+" at "+strconv.Itoa(q.pos), got, ok)
	}
	got, ok := extent.Write(content(top), top-4096, marks(top-4096, 4096))
	if !ok || got.Size != top || len(got.L) != 512 || got.L[0] != full(last-511) || got.L[511] != full(last) {
		t.Error("the most bytes can't be written at the end of all", ok)
	}
}

func TestWriteOfTheMost(t *testing.T) { // P11.2
	for _, pos := range []int{0, 1, 4, 7, 8, 4903, 4904, 4905, 8900, 9001, 9002, 12000} {
		for _, n := range []int{1, 100, 4095, 4096} {
			c, all := long(9001)
			was := slices.Clone(all)
			b := others(pos, n)
			got, ok := extent.Write(c, pos, b)
			end := max(9001, pos+n)
			all = append(all, make([]byte, end-9001)...)
			copy(all[pos:], b)
			var want api.Content
			want.Size = end
			for k := 0; k*8 < end; k++ {
				if k*8+8 > pos && k*8 < pos+n || k*8 < 9001 && k%3 != 2 {
					want.L = append(want.L, ext(k, all[k*8:min(k*8+8, end)]...))
				}
			}
			check(t, "Write of "+strconv.Itoa(n)+" at "+strconv.Itoa(pos), got, ok, want)
			for at := 0; at < end; at += 4000 {
				checkRead(t, got, at, 4000, all[at:min(at+4000, end)])
			}
			checkRead(t, c, 0, 4096, was[:4096])
		}
	}
}

func TestWritePlaceByPlace(t *testing.T) { // P11.2
	eachModel(func(m model, from, to int) {
		c := m.content()
		for pos := from; pos <= to; pos++ {
			for _, n := range []int{0, 1, 2, 7, 8, 9, 16, 19} {
				x := m
				b := others(max(pos, 0), n)
				ok := x.write(pos, b)
				got, gotOK := extent.Write(c, pos, b)
				judge(t, c, "Write", got, gotOK, x, ok)
			}
		}
	})
}

// judge asks whether a change of c came out as the model's did.
func judge(t *testing.T, c api.Content, what string, got api.Content, gotOK bool, m model, ok bool) {
	t.Helper()
	want := api.Content{}
	if ok {
		want = m.content()
	}
	if gotOK != ok || !alike(got, want) {
		t.Fatalf("%s of %v is %v, %v; want %v, %v", what, c, got, gotOK, want, ok)
	}
}

func TestTruncate(t *testing.T) { // P11.2
	c := content(20, ext(0, 1, 2, 3), ext(2, 4, 5, 6, 7), ext(6), ext(last))
	for _, q := range []struct {
		size int
		want api.Content
	}{
		{20, content(20, ext(0, 1, 2, 3), ext(2, 4, 5, 6, 7))}, {19, content(19, ext(0, 1, 2, 3), ext(2, 4, 5, 6))}, {18, content(18, ext(0, 1, 2, 3), ext(2, 4, 5))}, {17, content(17, ext(0, 1, 2, 3), ext(2, 4))},
		{16, content(16, ext(0, 1, 2, 3))}, {15, content(15, ext(0, 1, 2, 3))}, {8, content(8, ext(0, 1, 2, 3))}, {3, content(3, ext(0, 1, 2, 3))}, {1, content(1, ext(0, 1))}, {0, content(0)},
		{21, content(21, ext(0, 1, 2, 3), ext(2, 4, 5, 6, 7))}, {48, content(48, ext(0, 1, 2, 3), ext(2, 4, 5, 6, 7))}, {49, content(49, ext(0, 1, 2, 3), ext(2, 4, 5, 6, 7), ext(6))}, {56, content(56, ext(0, 1, 2, 3), ext(2, 4, 5, 6, 7), ext(6))},
		{top - 8, content(top-8, ext(0, 1, 2, 3), ext(2, 4, 5, 6, 7), ext(6))}, {top - 7, content(top-7, c.L...)}, {top, content(top, c.L...)},
	} {
		got, ok := extent.Truncate(c, q.size)
		check(t, "Truncate to "+strconv.Itoa(q.size), got, ok, q.want)
		check(t, "what was handed in", c, true, content(20, ext(0, 1, 2, 3), ext(2, 4, 5, 6, 7), ext(6), ext(last)))
	}
	for _, size := range []int{-1, -8, math.MinInt, top + 1, 1 << 62, math.MaxInt} {
		got, ok := extent.Truncate(c, size)
		checkNone(t, "Truncate to "+strconv.Itoa(size), got, ok)
		got, ok = extent.Truncate(api.Content{}, size)
		checkNone(t, "Truncate of nothing to "+strconv.Itoa(size), got, ok)
	}
	got, ok := extent.Truncate(api.Content{}, 100)
	check(t, "nothing, made longer", got, ok, content(100))
	checkRead(t, got, 0, 200, make([]byte, 100))
}

// What was behind a size that was set does not come back.
func TestLongerAgain(t *testing.T) { // P11.2
	c, all := long(50)
	for less := range 51 {
		short, ok := extent.Truncate(c, less)
		if !ok || !extent.May(short) {
			t.Fatal(less, short, ok)
		}
		checkRead(t, short, 0, 100, all[:less])
		for more := less; more <= 60; more++ {
			again, ok := extent.Truncate(short, more)
			if !ok || again.Size != more || !slices.Equal(again.L, short.L) {
				t.Fatal(less, more, again, ok)
			}
			checkRead(t, again, 0, 100, append(slices.Clone(all[:less]), make([]byte, more-less)...))
		}
	}
}

func TestTruncatePlaceByPlace(t *testing.T) { // P11.2
	eachModel(func(m model, from, to int) {
		c := m.content()
		for size := from; size <= to; size++ {
			x := m
			ok := x.truncate(size)
			got, gotOK := extent.Truncate(c, size)
			judge(t, c, "Truncate", got, gotOK, x, ok)
		}
	})
}

func TestAllocate(t *testing.T) { // P11.3
	c := content(10, ext(1, 1, 2), ext(5))
	for _, q := range []struct {
		name   string
		pos, n int
		size   int
		l      []api.Ext
	}{
		{"over holes and a block", 7, 10, 17, []api.Ext{ext(0), ext(1, 1, 2), ext(2), ext(5)}},
		{"one there already", 8, 1, 10, c.L}, {"all of it", 8, 8, 16, c.L}, {"at the size", 10, 1, 11, c.L}, {"up to the size", 8, 2, 10, c.L},
		{"one place of a hole", 0, 1, 10, []api.Ext{ext(0), ext(1, 1, 2), ext(5)}}, {"its last one", 7, 1, 10, []api.Ext{ext(0), ext(1, 1, 2), ext(5)}},
		{"two blocks by two places", 15, 2, 17, []api.Ext{ext(1, 1, 2), ext(2), ext(5)}},
		{"one behind the size, there", 40, 8, 48, c.L}, {"one behind all", 50, 3, 53, []api.Ext{ext(1, 1, 2), ext(5), ext(6)}},
		{"a hole between", 24, 8, 32, []api.Ext{ext(1, 1, 2), ext(3), ext(5)}}, {"around one behind the size", 39, 10, 49, []api.Ext{ext(1, 1, 2), ext(4), ext(5), ext(6)}},
		{"over all", 0, 60, 60, []api.Ext{ext(0), ext(1, 1, 2), ext(2), ext(3), ext(4), ext(5), ext(6), ext(7)}},
		{"at the end of all", top - 1, 1, top, []api.Ext{ext(1, 1, 2), ext(5), ext(last)}}, {"at the end, two", top - 9, 9, top, []api.Ext{ext(1, 1, 2), ext(5), ext(last - 1), ext(last)}},
	} {
		got, ok := extent.Allocate(c, q.pos, q.n, false)
		check(t, q.name, got, ok, content(q.size, q.l...))
		got, ok = extent.Allocate(c, q.pos, q.n, true)
		check(t, q.name+", keep", got, ok, content(10, q.l...))
		check(t, "what was handed in", c, true, content(10, ext(1, 1, 2), ext(5)))
	}
}

func TestAllocateRefused(t *testing.T) { // P11.3, R5
	c := content(10, ext(1, 1, 2))
	for _, q := range []struct{ pos, n int }{
		{-1, 1}, {-1, 2}, {-8, 16}, {math.MinInt, 1}, {math.MinInt, math.MaxInt}, {-1, math.MaxInt},
		{0, 0}, {5, 0}, {top, 0}, {0, -1}, {8, -1}, {16, -8}, {0, math.MinInt}, {math.MaxInt, -1}, {math.MaxInt, math.MinInt}, {-1, -1},
		{0, 32769}, {8, 32769}, {top - 32769, 32769}, {0, 1 << 32}, {0, top}, {0, top + 1}, {0, math.MaxInt},
		{top, 1}, {top - 1, 2}, {top - 32767, 32768}, {top + 1, 1}, {1 << 62, 1}, {math.MaxInt, 1}, {1, math.MaxInt}, {math.MaxInt, math.MaxInt}, {math.MaxInt - 7, 8},
	} {
		for _, keep := range []bool{false, true} {
			got, ok := extent.Allocate(c, q.pos, q.n, keep)
			checkNone(t, "Allocate of "+strconv.Itoa(q.n)+" at "+strconv.Itoa(q.pos), got, ok)
		}
	}
}

func TestAllocateOfTheMost(t *testing.T) { // P11.3
	for _, q := range []struct{ pos, n, blocks int }{
		{0, 32768, 4096}, {8, 32768, 4096}, {0, 32767, 4096}, {0, 32760, 4095}, {1, 32768, 4097}, {7, 32768, 4097}, {7, 32762, 4097}, {7, 32761, 4096}, {12345, 32768, 4097}, {top - 32768, 32768, 4096}, {top - 32769, 32768, 4097},
	} {
		for _, keep := range []bool{false, true} {
			c := content(16, full(0), full(1), ext(3), ext(last))
			blocks := map[int]api.Ext{}
			for no := q.pos / 8; no < q.pos/8+q.blocks; no++ {
				blocks[no] = ext(no)
			}
			for _, e := range c.L {
				blocks[e.No] = e
			}
			var l []api.Ext
			for _, no := range slices.Sorted(maps.Keys(blocks)) {
				l = append(l, blocks[no])
			}
			size := 16
			if !keep {
				size = max(16, q.pos+q.n)
			}
			got, ok := extent.Allocate(c, q.pos, q.n, keep)
			if !ok || !alike(got, content(size, l...)) {
				t.Errorf("Allocate(%d, %d, %v): %d, %d blocks, %v; want %d, %d blocks", q.pos, q.n, keep, got.Size, len(got.L), ok, size, len(l))
			}
		}
	}
}

func TestAllocatePlaceByPlace(t *testing.T) { // P11.3
	eachModel(func(m model, from, to int) {
		c := m.content()
		for pos := from; pos <= to; pos++ {
			for _, n := range []int{-1, 0, 1, 2, 7, 8, 9, 17, 24} {
				for _, keep := range []bool{false, true} {
					x := m
					ok := x.allocate(pos, n, keep)
					got, gotOK := extent.Allocate(c, pos, n, keep)
					judge(t, c, "Allocate", got, gotOK, x, ok)
				}
			}
		}
	})
}

func TestPunch(t *testing.T) { // P11.3
	a, b := ext(0, 1, 1, 1, 1, 1, 1, 1, 1), ext(1, 2, 2, 2, 2, 2, 2, 2, 2)
	d, e := ext(3, 3, 3, 3, 3, 3), ext(5)
	c := content(29, a, b, d, e)
	for _, q := range []struct {
		name   string
		pos, n int
		want   []api.Ext
	}{
		{"within one block", 9, 3, []api.Ext{a, ext(1, 2, 0, 0, 0, 2, 2, 2, 2), d, e}}, {"all but its first byte", 9, 7, []api.Ext{a, ext(1, 2), d, e}},
		{"all but its last", 8, 7, []api.Ext{a, ext(1, 0, 0, 0, 0, 0, 0, 0, 2), d, e}}, {"a whole one", 8, 8, []api.Ext{a, d, e}}, {"the first one", 0, 8, []api.Ext{b, d, e}},
		{"one with parts of two", 6, 20, []api.Ext{ext(0, 1, 1, 1, 1, 1, 1), ext(3, 0, 0, 3, 3, 3), e}}, {"two", 0, 16, []api.Ext{d, e}}, {"parts of two", 7, 2, []api.Ext{ext(0, 1, 1, 1, 1, 1, 1, 1), ext(1, 0, 2, 2, 2, 2, 2, 2, 2), d, e}},
		{"a hole", 16, 8, c.L}, {"part of a hole", 18, 3, c.L}, {"a hole, and the block behind", 16, 16, []api.Ext{a, b, e}}, {"a hole, and some behind", 17, 8, []api.Ext{a, b, ext(3, 0, 3, 3, 3, 3), e}},
		{"all bytes of the last block below the size", 24, 5, []api.Ext{a, b, ext(3), e}}, {"that block", 24, 8, []api.Ext{a, b, e}}, {"at the size", 29, 2, c.L}, {"the last byte", 28, 1, []api.Ext{a, b, ext(3, 3, 3, 3, 3), e}},
		{"a block behind the size", 40, 8, []api.Ext{a, b, d}}, {"part of it", 40, 7, c.L}, {"around it", 32, 100, []api.Ext{a, b, d}}, {"behind all", 48, 100, c.L},
		{"all", 0, top, nil}, {"all but the first byte", 1, top - 1, []api.Ext{ext(0, 1)}}, {"from a block on", 8, top - 8, []api.Ext{a}}, {"the last place of all", top - 1, 1, c.L},
		{"one byte", 0, 1, []api.Ext{ext(0, 0, 1, 1, 1, 1, 1, 1, 1), b, d, e}}, {"all below the size", 0, 29, []api.Ext{ext(3), e}},
	} {
		got, ok := extent.Punch(c, q.pos, q.n)
		check(t, q.name, got, ok, content(29, q.want...))
		check(t, "what was handed in", c, true, content(29, a, b, d, e))
	}
	got, ok := extent.Punch(content(top, full(last)), top-8, 8)
	check(t, "the last block of all", got, ok, content(top))
	got, ok = extent.Punch(content(top, full(last)), top-8, 7)
	check(t, "most of it", got, ok, content(top, ext(last, 0, 0, 0, 0, 0, 0, 0, mark(top-1))))
	got, ok = extent.Punch(api.Content{}, 0, 1)
	check(t, "of nothing", got, ok, content(0))
}

func TestPunchRefused(t *testing.T) { // P11.3, R5
	c := content(16, full(0), full(1))
	for _, q := range []struct{ pos, n int }{
		{-1, 1}, {-1, 2}, {-8, 16}, {-8, 8}, {math.MinInt, 1}, {math.MinInt, math.MaxInt}, {-1, math.MaxInt}, {-1, top},
		{0, 0}, {5, 0}, {top, 0}, {0, -1}, {8, -1}, {16, -8}, {0, math.MinInt}, {math.MaxInt, -1}, {math.MaxInt, math.MinInt},
		{0, top + 1}, {1, top}, {top, 1}, {top - 1, 2}, {top + 1, 1}, {1 << 62, 1}, {math.MaxInt, 1}, {1, math.MaxInt}, {8, math.MaxInt}, {math.MaxInt, math.MaxInt}, {0, math.MaxInt},
	} {
		got, ok := extent.Punch(c, q.pos, q.n)
		checkNone(t, "Punch of "+strconv.Itoa(q.n)+" at "+strconv.Itoa(q.pos), got, ok)
	}
}

func TestPunchPlaceByPlace(t *testing.T) { // P11.3
	eachModel(func(m model, from, to int) {
		c := m.content()
		for pos := from; pos <= to; pos++ {
			for _, n := range []int{-1, 0, 1, 2, 7, 8, 9, 15, 16, 17, 24, 40, 1 << 32, top - 8, top} {
				x := m
				ok := x.punch(pos, n)
				got, gotOK := extent.Punch(c, pos, n)
				judge(t, c, "Punch", got, gotOK, x, ok)
			}
		}
	})
}

func TestSeek(t *testing.T) { // P11.4
	c := content(30, ext(0), full(1), ext(3, 2), ext(9))
	for _, q := range []struct {
		pos, data, hole int
		isData, isHole  bool
	}{
		{0, 0, 16, true, true}, {5, 5, 16, true, true}, {7, 7, 16, true, true}, {8, 8, 16, true, true}, {15, 15, 16, true, true}, {16, 24, 16, true, true}, {20, 24, 20, true, true}, {23, 24, 23, true, true}, {24, 24, 30, true, true}, {29, 29, 30, true, true},
		{30, 0, 0, false, false}, {31, 0, 0, false, false}, {72, 0, 0, false, false}, {80, 0, 0, false, false}, {-1, 0, 0, false, false}, {-8, 0, 0, false, false}, {math.MinInt, 0, 0, false, false},
		{top - 1, 0, 0, false, false}, {top, 0, 0, false, false}, {top + 1, 0, 0, false, false}, {1 << 62, 0, 0, false, false}, {math.MaxInt, 0, 0, false, false}, {math.MaxInt - 7, 0, 0, false, false},
	} {
		checkData(t, c, q.pos, q.data, q.isData)
		checkHole(t, c, q.pos, q.hole, q.isHole)
	}
}

func TestSeekOfSomeFiles(t *testing.T) { // P11.4
	for _, q := range []struct {
		name            string
		c               api.Content
		pos, data, hole int
		isData, isHole  bool
	}{
		{"nothing", api.Content{}, 0, 0, 0, false, false}, {"nothing, a block", content(0, ext(0)), 0, 0, 0, false, false}, {"nothing, from -1", api.Content{}, -1, 0, 0, false, false},
		{"all hole", content(30), 0, 0, 0, false, true}, {"all hole, its last place", content(30), 29, 0, 29, false, true}, {"all hole, as long as one may be", content(top), top - 1, 0, top - 1, false, true},
		{"all hole, one behind the size", content(30, ext(4)), 0, 0, 0, false, true}, {"one that begins at the size", content(24, ext(3)), 20, 0, 20, false, true}, {"one that begins ahead of it", content(25, ext(3)), 20, 24, 20, true, true},
		{"all blocks", content(24, full(0), full(1), full(2)), 0, 0, 24, true, true}, {"from within", content(24, full(0), full(1), full(2)), 13, 13, 24, true, true}, {"and one behind the size", content(24, full(0), full(1), full(2), ext(3)), 3, 3, 24, true, true},
		{"a run that ends at the size within a block", content(20, ext(1), ext(2)), 9, 9, 20, true, true}, {"that goes on behind it", content(20, ext(1), ext(2), ext(3)), 19, 19, 20, true, true}, {"that ends ahead of it", content(25, ext(1), ext(2)), 9, 9, 24, true, true},
		{"the last block of all", content(top, full(last)), 0, top - 8, 0, true, true}, {"from it", content(top, full(last)), top - 8, top - 8, top, true, true}, {"from its end", content(top, full(last)), top - 1, top - 1, top, true, true}, {"behind it", content(top, full(last)), top, 0, 0, false, false},
		{"far apart", content(top, full(0), full(last)), 8, top - 8, 8, true, true},
	} {
		at, ok := extent.Data(q.c, q.pos)
		checkAt(t, q.name+": Data", at, ok, q.data, q.isData)
		at, ok = extent.Hole(q.c, q.pos)
		checkAt(t, q.name+": Hole", at, ok, q.hole, q.isHole)
	}
}

// seeks asks for data and holes from each place on, and from around.
func seeks(t *testing.T, c api.Content, m *model, from, to int) {
	t.Helper()
	for pos := from; pos <= to; pos++ {
		want, wantOK := m.data(pos)
		if at, ok := extent.Data(c, pos); at != want || ok != wantOK {
			t.Fatalf("%v: Data from %d is %d, %v; want %d, %v", c, pos, at, ok, want, wantOK)
		}
		want, wantOK = m.hole(pos)
		if at, ok := extent.Hole(c, pos); at != want || ok != wantOK {
			t.Fatalf("%v: Hole from %d is %d, %v; want %d, %v", c, pos, at, ok, want, wantOK)
		}
	}
}

func TestSeekPlaceByPlace(t *testing.T) { // P11.4
	eachModel(func(m model, from, to int) { seeks(t, m.content(), &m, from, to) })
	models(0, 0, 6, 40, 49, func(m model) { seeks(t, m.content(), &m, -1, 50) })
}

// change is one of a menu, done on a content and on a model.
type change struct {
	real  func(api.Content) (api.Content, bool)
	model func(*model) bool
}

func writing(pos int, b ...byte) change {
	return change{func(c api.Content) (api.Content, bool) { return extent.Write(c, pos, b) }, func(m *model) bool { return m.write(pos, b) }}
}

func truncating(size int) change {
	return change{func(c api.Content) (api.Content, bool) { return extent.Truncate(c, size) }, func(m *model) bool { return m.truncate(size) }}
}

func allocating(pos, n int, keep bool) change {
	return change{func(c api.Content) (api.Content, bool) { return extent.Allocate(c, pos, n, keep) }, func(m *model) bool { return m.allocate(pos, n, keep) }}
}

func punching(pos, n int) change {
	return change{func(c api.Content) (api.Content, bool) { return extent.Punch(c, pos, n) }, func(m *model) bool { return m.punch(pos, n) }}
}

// histories does all lists of at most so many changes of the menu, one behind the other, and asks all behind each.
func histories(t *testing.T, menu []change, changes int, c api.Content, m model) {
	t.Helper()
	if changes == 0 {
		return
	}
	for _, q := range menu {
		x := m
		ok := q.model(&x)
		y, yOK := q.real(c)
		judge(t, c, "the change", y, yOK, x, ok)
		if !alike(c, m.content()) {
			t.Fatalf("%v is changed to %v", m.content(), c)
		}
		if !ok {
			continue
		}
		if !extent.May(y) {
			t.Fatalf("behind a change of %v: %v may not be", c, y)
		}
		from := max(m.base, x.size-24)
		if !bytes.Equal(extent.Read(y, from, 64), x.read(from, 64)) {
			t.Fatalf("%v reads as %v", y, extent.Read(y, from, 64))
		}
		histories(t, menu, changes-1, y, x)
	}
}

func TestEveryShortHistory(t *testing.T) { // P11.1 to P11.3
	menu := []change{
		writing(3, 1), writing(6, 2, 3, 4), writing(21, 0), writing(12, others(12, 9)...),
		truncating(0), truncating(5), truncating(16), truncating(27),
		allocating(7, 10, false), allocating(15, 9, true),
		punching(0, 8), punching(5, 14), punching(16, 1<<39),
	}
	histories(t, menu, 4, api.Content{}, model{})
	high := []change{
		writing(top-1, 1), writing(top-10, 2, 3, 4), writing(top, 1), writing(top-20, others(5, 13)...),
		truncating(top - 8), truncating(top - 5), truncating(top), truncating(top + 1),
		allocating(top-9, 9, false), allocating(top-17, 2, true), allocating(top-9, 10, true),
		punching(top-8, 8), punching(top-19, 14), punching(5, top-5),
	}
	histories(t, high, 3, content(top-20), model{base: top - window, size: top - 20})
}

// Data and holes behind histories, too, and all that is read from each place on.
func TestSeekBehindHistories(t *testing.T) { // P11.2, P11.4
	menu := []change{writing(3, 1), writing(14, 2, 3, 4), truncating(9), truncating(29), allocating(17, 9, true), punching(8, 9)}
	var on func(c api.Content, m model, left int)
	on = func(c api.Content, m model, left int) {
		seeks(t, c, &m, -1, 33)
		for pos := range 33 {
			checkRead(t, c, pos, 40, m.read(pos, 40))
		}
		if left == 0 {
			return
		}
		for _, q := range menu {
			x := m
			q.model(&x)
			y, _ := q.real(c)
			on(y, x, left-1)
		}
	}
	on(api.Content{}, model{}, 4)
}

// handed is a file whose list has spare room in which there is more, and such as may not be.
func handed() api.Content {
	return content(21, spare.Behind([]api.Ext{full(0), ext(2, marks(16, 5)...), ext(4)}, ext(5, 1), ext(1), ext(-1, 9), full(6))...)
}

// menu is changes of each kind for handed, and such as leave it as it is.
func menu(b []byte) []change {
	return []change{
		writing(6, b...), writing(18, b...), writing(0, b[:1]...), writing(40, b...), writing(5), writing(21), writing(100),
		truncating(21), truncating(18), truncating(100), truncating(0),
		allocating(5, 20, false), allocating(5, 20, true), allocating(0, 8, true), allocating(40, 1, true),
		punching(3, 15), punching(9, 3), punching(100, 5), punching(0, 8), punching(0, 100),
	}
}

func modelOfHanded() model {
	m := model{size: 21, there: [8]bool{true, false, true, false, true}}
	copy(m.b[:], marks(0, 8))
	copy(m.b[16:], marks(16, 5))
	return m
}

func TestWhatIsHandedInStays(t *testing.T) { // R2, R5
	for i := range menu([]byte{1, 2, 3}) {
		c := handed()
		b := spare.Behind([]byte{1, 2, 3}, 91, 92, 93)
		room, bytesRoom := spare.Whole(c.L), spare.Whole(b)
		q := menu(b)[i]
		m := modelOfHanded()
		ok := q.model(&m)
		got, gotOK := q.real(c)
		judge(t, c, strconv.Itoa(i), got, gotOK, m, ok)
		spare.Spoil(got.L, ext(77, 99))
		if c.Size != 21 || !slices.Equal(spare.Whole(c.L), room) || !bytes.Equal(spare.Whole(b), bytesRoom) {
			t.Errorf("%d: what was handed in is changed", i)
		}
	}
}

func TestAskingChangesNothing(t *testing.T) { // R2, R5
	c := handed()
	room := spare.Whole(c.L)
	if !extent.May(c) || !extent.Same(c, handed()) || !extent.Same(c, content(21, slices.Clone(c.L)...)) {
		t.Error("what stands behind the list is read")
	}
	m := modelOfHanded()
	seeks(t, c, &m, -1, 60)
	for pos := range 24 {
		b := extent.Read(c, pos, 50)
		if !bytes.Equal(b, m.read(pos, 50)) {
			t.Errorf("Read(%d, 50) is %v", pos, b)
		}
		spare.Spoil(b, 99)
	}
	if !slices.Equal(spare.Whole(c.L), room) {
		t.Error("what was handed in is changed")
	}
}

func TestWhatIsHandedInIsNotKept(t *testing.T) { // R2
	for i := range menu([]byte{1, 2, 3}) {
		c := handed()
		b := spare.Behind([]byte{1, 2, 3}, 91, 92, 93)
		q := menu(b)[i]
		m := modelOfHanded()
		ok := q.model(&m)
		got, gotOK := q.real(c)
		read := extent.Read(c, 0, 21)
		spare.Spoil(c.L, ext(77, 99))
		spare.Spoil(b, 99)
		judge(t, c, strconv.Itoa(i)+" behind a change of what was handed in", got, gotOK, m, ok)
		first := modelOfHanded()
		if !bytes.Equal(read, first.read(0, 21)) {
			t.Errorf("what was read is now %v", read)
		}
	}
}

// Two answers share nothing, spare room included, whether they come of one content or one of the other.
func TestAnswersAreNew(t *testing.T) { // R2
	for i, q := range menu([]byte{1, 2, 3}) {
		for j, p := range menu([]byte{4, 5}) {
			c, m := handed(), modelOfHanded()
			x, y, z := m, m, m
			q.model(&x)
			p.model(&y)
			q.model(&z)
			p.model(&z)
			a, _ := q.real(c)
			b, _ := p.real(c)
			d, _ := p.real(a)
			what := strconv.Itoa(i) + " and " + strconv.Itoa(j)
			read := extent.Read(a, 0, 64)
			again := extent.Read(a, 0, 64)
			spare.Spoil(read, 99)
			judge(t, c, what+" behind a change of what was read", a, true, x, true)
			if !bytes.Equal(again, x.read(0, 64)) {
				t.Errorf("%s: one that was read changes the other", what)
			}
			spare.Spoil(a.L, ext(77, 99))
			judge(t, c, what+" behind a change of the first answer", b, true, y, true)
			judge(t, c, what+", of one another", d, true, z, true)
			spare.Spoil(b.L, ext(78, 98))
			judge(t, c, what+" behind a change of the second one, too", d, true, z, true)
			spare.Spoil(d.L, ext(79, 97))
			if !alike(c, handed()) {
				t.Fatalf("%s: what was handed in changes with an answer", what)
			}
		}
	}
}

func TestNilIsEmpty(t *testing.T) { // R4
	for _, l := range [][]api.Ext{nil, {}, make([]api.Ext, 0, 9)} {
		c := content(9, l...)
		if !extent.May(c) || !extent.Same(c, content(9)) || !extent.Same(content(9), c) {
			t.Error("an empty list is not as none")
		}
		checkRead(t, c, 0, 20, make([]byte, 9))
		for _, b := range [][]byte{nil, {}, make([]byte, 0, 9)} {
			got, ok := extent.Write(c, 20, b)
			check(t, "Write of none", got, ok, content(9))
		}
		got, ok := extent.Truncate(c, 3)
		check(t, "Truncate", got, ok, content(3))
		got, ok = extent.Allocate(c, 8, 1, true)
		check(t, "Allocate", got, ok, content(9, ext(1)))
		got, ok = extent.Punch(c, 8, 1)
		check(t, "Punch", got, ok, content(9))
		checkData(t, c, 0, 0, false)
		checkHole(t, c, 0, 0, true)
	}
}
