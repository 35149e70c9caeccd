package disk_test

import (
	"bytes"
	"math"
	"slices"
	"testing"

	"salvor/api"
	"salvor/disk"
	"salvor/spare"
)

// counted is n bytes that tell their places: none is 0, and a run of them taken from elsewhere is another one.
func counted(n int) []byte {
	b := make([]byte, n)
	for i := range b {
		b[i] = byte(i%251) + 1 ^ byte(i/251)&1<<7
	}
	return b
}

func soft(sector, times int) api.Soft { return api.Soft{Sector: sector, Times: times} }

// copied is d in memory of its own.
func copied(d api.Device) api.Device {
	return api.Device{Data: slices.Clone(d.Data), Bad: slices.Clone(d.Bad), Soft: slices.Clone(d.Soft), Shorts: slices.Clone(d.Shorts)}
}

// model is a disk, asked byte by byte: it has no more than what it is made of, and which sector each failed call was for.
type model struct {
	d      api.Device
	calls  int
	failed []int
}

func (m *model) left(sector int) int {
	if sector < 0 || sector > len(m.d.Data) || sector*8 >= len(m.d.Data) || slices.Contains(m.d.Bad, sector) {
		return 0
	}
	n := 0
	for _, s := range m.d.Soft {
		if s.Sector == sector {
			n += s.Times
		}
	}
	for _, k := range m.failed {
		if k == sector {
			n--
		}
	}
	return n
}

func (m *model) fails(sector int) bool {
	return slices.Contains(m.d.Bad, sector) || m.left(sector) > 0
}

func (m *model) get(pos, n int) ([]byte, api.Code) {
	if pos < 0 || n < 0 || n > 4096 {
		return nil, api.Range
	}
	k := m.calls
	m.calls++
	if k < len(m.d.Shorts) && m.d.Shorts[k] > 0 && m.d.Shorts[k] < n {
		n = m.d.Shorts[k]
	}
	var out []byte
	for ; n > 0 && pos < len(m.d.Data); n-- {
		if m.fails(pos / 8) {
			if len(out) > 0 {
				break
			}
			if !slices.Contains(m.d.Bad, pos/8) {
				m.failed = append(m.failed, pos/8)
			}
			return nil, api.Failed
		}
		out = append(out, m.d.Data[pos])
		pos++
	}
	return out, api.OK
}

func checkGet(t *testing.T, d *disk.Disk, pos, n int, want []byte, code api.Code) {
	t.Helper()
	if b, c := d.Get(pos, n); !bytes.Equal(b, want) || c != code {
		t.Errorf("Get(%d, %d) is %v, %d; want %v, %d", pos, n, b, c, want, code)
	}
}

func checkLeft(t *testing.T, d *disk.Disk, sector, want int) {
	t.Helper()
	if n := d.Left(sector); n != want {
		t.Errorf("Left(%d) is %d; want %d", sector, n, want)
	}
}

func checkCalls(t *testing.T, d *disk.Disk, want int) {
	t.Helper()
	if n := d.Calls(); n != want {
		t.Errorf("Calls is %d; want %d", n, want)
	}
}

func checkLong(t *testing.T, d *disk.Disk, want int) {
	t.Helper()
	if n := d.Long(); n != want {
		t.Errorf("Long is %d; want %d", n, want)
	}
}

// checkZero asks d to be a disk without bytes that was not read yet.
func checkZero(t *testing.T, d *disk.Disk) {
	t.Helper()
	checkLong(t, d, 0)
	checkCalls(t, d, 0)
	for _, k := range []int{math.MinInt, -1, 0, 1, 2, 8191, 8192, math.MaxInt} {
		checkLeft(t, d, k, 0)
	}
	checkGet(t, d, -1, 1, nil, api.Range)
	checkGet(t, d, 0, -1, nil, api.Range)
	checkGet(t, d, 0, api.MaxIO+1, nil, api.Range)
	checkCalls(t, d, 0)
	for i, pos := range []int{0, 0, 1, 8, api.MaxDisk, math.MaxInt} {
		checkGet(t, d, pos, api.MaxIO, nil, api.OK)
		checkCalls(t, d, i+1)
	}
}

func TestRunsOfTheChapter(t *testing.T) { // P10.1, P10.2
	all := counted(16)
	d := disk.New(api.Device{Data: all, Soft: []api.Soft{soft(1, 1)}})
	checkGet(t, d, 0, 16, all[:8], api.OK)
	checkLeft(t, d, 1, 1)
	checkGet(t, d, 8, 8, nil, api.Failed)
	checkLeft(t, d, 1, 0)
	checkGet(t, d, 8, 8, all[8:], api.OK)
	checkCalls(t, d, 3)
}

// mays are devices, and whether a disk can be made of each.
func mays() []struct {
	name string
	d    api.Device
	want bool
} {
	three := counted(20)
	return []struct {
		name string
		d    api.Device
		want bool
	}{
		{"zero", api.Device{}, true},
		{"empty", api.Device{Data: []byte{}, Bad: []int{}, Soft: []api.Soft{}, Shorts: []int{}}, true},
		{"one byte", api.Device{Data: []byte{0}}, true},
		{"one less than the most bytes", api.Device{Data: counted(65535)}, true},
		{"the most bytes", api.Device{Data: counted(65536)}, true},
		{"one more than the most bytes", api.Device{Data: counted(65537)}, false},
		{"twice the most bytes", api.Device{Data: counted(131072)}, false},
		{"Bad -1", api.Device{Data: three, Bad: []int{-1}}, false},
		{"Bad -1, without bytes", api.Device{Bad: []int{-1}}, false},
		{"Bad very small", api.Device{Data: three, Bad: []int{math.MinInt}}, false},
		{"Bad -1 at the end", api.Device{Data: three, Bad: []int{0, 1, -1}}, false},
		{"Bad -1 in the middle", api.Device{Data: three, Bad: []int{0, -1, 1}}, false},
		{"Bad 0", api.Device{Data: three, Bad: []int{0}}, true},
		{"Bad 0, without bytes", api.Device{Bad: []int{0}}, true},
		{"Bad the last", api.Device{Data: three, Bad: []int{2}}, true},
		{"Bad beyond the last", api.Device{Data: three, Bad: []int{3}}, true},
		{"Bad very great", api.Device{Data: three, Bad: []int{math.MaxInt}}, true},
		{"Bad where a product goes round", api.Device{Data: three, Bad: []int{1 << 61, 1<<61 + 1}}, true},
		{"Bad twice", api.Device{Data: three, Bad: []int{1, 1}}, true},
		{"Bad falling", api.Device{Data: three, Bad: []int{2, 0, 1}}, true},
		{"more Bad than sectors", api.Device{Data: three, Bad: slices.Repeat([]int{1}, 70000)}, true},
		{"Sector -1", api.Device{Data: three, Soft: []api.Soft{soft(-1, 1)}}, false},
		{"Sector -1, no times", api.Device{Data: three, Soft: []api.Soft{soft(-1, 0)}}, false},
		{"Sector very small", api.Device{Data: three, Soft: []api.Soft{soft(math.MinInt, 1)}}, false},
		{"Sector -1 at the end", api.Device{Data: three, Soft: []api.Soft{soft(0, 1), soft(1, 1), soft(-1, 1)}}, false},
		{"Sector 0", api.Device{Data: three, Soft: []api.Soft{soft(0, 1)}}, true},
		{"Sector beyond the last", api.Device{Data: three, Soft: []api.Soft{soft(3, 1)}}, true},
		{"Sector very great", api.Device{Data: three, Soft: []api.Soft{soft(math.MaxInt, 1)}}, true},
		{"Sector several times", api.Device{Data: three, Soft: []api.Soft{soft(1, 20), soft(1, 20), soft(1, 1)}}, true},
		{"Times -1", api.Device{Data: three, Soft: []api.Soft{soft(0, -1)}}, false},
		{"Times very small", api.Device{Data: three, Soft: []api.Soft{soft(0, math.MinInt)}}, false},
		{"Times 0", api.Device{Data: three, Soft: []api.Soft{soft(0, 0)}}, true},
		{"Times 19", api.Device{Data: three, Soft: []api.Soft{soft(0, 19)}}, true},
		{"Times 20", api.Device{Data: three, Soft: []api.Soft{soft(0, 20)}}, true},
		{"Times 21", api.Device{Data: three, Soft: []api.Soft{soft(0, 21)}}, false},
		{"Times very great", api.Device{Data: three, Soft: []api.Soft{soft(0, math.MaxInt)}}, false},
		{"Times 21 of one that is Bad", api.Device{Data: three, Bad: []int{0}, Soft: []api.Soft{soft(0, 21)}}, false},
		{"Times 21 of one without bytes", api.Device{Data: three, Soft: []api.Soft{soft(9, 21)}}, false},
		{"Times 21 at the end", api.Device{Data: three, Soft: []api.Soft{soft(0, 1), soft(0, 21)}}, false},
		{"Times -1 that others make up for", api.Device{Data: three, Soft: []api.Soft{soft(0, 1), soft(0, -1)}}, false},
		{"Shorts of any numbers", api.Device{Data: three, Shorts: []int{math.MinInt, -1, 0, 1, 4096, 4097, math.MaxInt}}, true},
		{"more Shorts than bytes", api.Device{Data: three, Shorts: slices.Repeat([]int{-1}, 70000)}, true},
		{"all at once", api.Device{Data: three, Bad: []int{1}, Soft: []api.Soft{soft(2, 1)}, Shorts: []int{-1}}, true},
	}
}

func TestMay(t *testing.T) { // P10.1
	for _, q := range mays() {
		if got := disk.May(q.d); got != q.want {
			t.Errorf("%s: May is %v", q.name, got)
		}
	}
}

func TestNew(t *testing.T) { // P10.1
	for _, q := range mays() {
		t.Run(q.name, func(t *testing.T) {
			d := disk.New(q.d)
			if !q.want {
				checkZero(t, d)
				return
			}
			checkLong(t, d, len(q.d.Data))
			checkCalls(t, d, 0)
			m := &model{d: q.d}
			for k := -1; k < 5; k++ {
				checkLeft(t, d, k, m.left(k))
			}
			for _, pos := range []int{0, 8, 16, 0, 8, 16} {
				want, code := m.get(pos, 20)
				checkGet(t, d, pos, 20, want, code)
			}
		})
	}
}

// Two disks of one that may not be are two zero ones: the calls of one are not the other's.
func TestTwoOfOneThatMayNotBe(t *testing.T) { // P10.1
	bad := api.Device{Data: counted(16), Bad: []int{-1}, Soft: []api.Soft{soft(0, 2)}, Shorts: []int{1}}
	d, e := disk.New(bad), disk.New(bad)
	checkZero(t, d)
	checkCalls(t, d, 6)
	checkZero(t, e)
}

func TestLong(t *testing.T) { // P10.1
	for _, n := range []int{0, 1, 7, 8, 9, 15, 16, 17, 4095, 4096, 4097, 65528, 65529, 65535, 65536} {
		all := counted(n)
		d := disk.New(api.Device{Data: all})
		checkLong(t, d, n)
		var got []byte
		for len(got) < n {
			b, code := d.Get(len(got), api.MaxIO)
			if len(b) == 0 || code != api.OK {
				t.Fatalf("%d bytes: none at %d, %d", n, len(got), code)
			}
			got = append(got, b...)
		}
		if !bytes.Equal(got, all) {
			t.Errorf("%d bytes: others are read", n)
		}
		checkCalls(t, d, (n+api.MaxIO-1)/api.MaxIO)
		checkGet(t, d, n, api.MaxIO, nil, api.OK)
		checkLong(t, d, n)
	}
}

func TestLeftAtFirst(t *testing.T) { // P10.1
	d := disk.New(api.Device{
		Data: counted(4*8 + 3),
		Bad:  []int{1, 3, 1},
		Soft: []api.Soft{soft(0, 5), soft(1, 7), soft(2, 20), soft(4, 2), soft(2, 20), soft(5, 9), soft(2, 1), soft(6, 9), soft(4, 0), soft(1<<61, 3), soft(math.MaxInt, 3)},
	})
	for _, q := range []struct{ sector, want int }{
		{math.MinInt, 0}, {-1 << 61, 0}, {-5, 0}, {-1, 0},
		{0, 5}, {1, 0}, {2, 41}, {3, 0}, {4, 2}, {5, 0}, {6, 0}, {7, 0},
		{1 << 61, 0}, {1<<61 + 2, 0}, {math.MaxInt, 0},
	} {
		checkLeft(t, d, q.sector, q.want)
		checkLeft(t, d, q.sector, q.want) // asking wears nothing off
	}
	checkCalls(t, d, 0)
}

// The last sector counts with one byte as with all of them, and the one behind it never.
func TestLeftOfTheLastSector(t *testing.T) { // P10.1
	for n := range 26 {
		d := disk.New(api.Device{Data: counted(n), Soft: []api.Soft{soft(0, 1), soft(1, 2), soft(2, 3), soft(3, 4), soft(4, 5)}})
		for k := range 5 {
			want := k + 1
			if k*8 >= n {
				want = 0
			}
			checkLeft(t, d, k, want)
		}
	}
	d := disk.New(api.Device{Data: counted(api.MaxDisk), Soft: []api.Soft{soft(8191, 4), soft(8192, 5)}})
	checkLeft(t, d, 8191, 4)
	checkLeft(t, d, 8192, 0)
	checkGet(t, d, 65535, 1, nil, api.Failed)
	checkLeft(t, d, 8191, 3)
}

func TestLeftGoesDown(t *testing.T) { // P10.1, P10.2
	all := counted(20)
	d := disk.New(api.Device{Data: all, Soft: []api.Soft{soft(1, 20), soft(2, 3), soft(1, 20), soft(1, 2)}})
	for i := 42; i > 0; i-- {
		checkLeft(t, d, 1, i)
		checkLeft(t, d, 2, 3)
		checkGet(t, d, 8+i%8, 1+i%3, nil, api.Failed)
	}
	for range 3 {
		checkLeft(t, d, 1, 0)
		checkGet(t, d, 8, 12, all[8:16], api.OK)
	}
	for i := 3; i > 0; i-- {
		checkLeft(t, d, 2, i)
		checkGet(t, d, 19, 1, nil, api.Failed)
	}
	checkLeft(t, d, 2, 0)
	checkGet(t, d, 8, 12, all[8:], api.OK)
	checkGet(t, d, 0, 20, all, api.OK)
	checkCalls(t, d, 42+3+3+2)
}

func TestRefused(t *testing.T) { // P10.2, R5
	all := counted(5000)
	d := disk.New(api.Device{Data: all, Bad: []int{0}, Soft: []api.Soft{soft(1, 1)}, Shorts: []int{3}})
	for _, q := range []struct{ pos, n int }{
		{-1, 0}, {-1, 1}, {-1, 2}, {-8, 16}, {math.MinInt, 0}, {math.MinInt, math.MinInt}, {math.MinInt, math.MaxInt}, {math.MinInt, 4096},
		{0, -1}, {8, -1}, {16, -1}, {16, math.MinInt}, {5000, -1}, {5001, -1}, {math.MaxInt, -1}, {math.MaxInt, math.MinInt}, {-1, -1},
		{0, 4097}, {8, 4097}, {16, 4097}, {5000, 4097}, {5001, 4097}, {16, 65536}, {16, math.MaxInt}, {16, 1 << 32}, {16, 1<<32 + 1}, {math.MaxInt, math.MaxInt}, {math.MaxInt, 4097},
	} {
		b, code := d.Get(q.pos, q.n)
		if len(b) != 0 || code != api.Range {
			t.Errorf("Get(%d, %d) is %v, %d", q.pos, q.n, b, code)
		}
		checkCalls(t, d, 0)
		checkLeft(t, d, 1, 1)
	}
	// The first of Shorts is still the next call's.
	checkGet(t, d, 16, 4096, all[16:19], api.OK)
	checkCalls(t, d, 1)
	checkGet(t, d, -1, 1, nil, api.Range)
	checkCalls(t, d, 1)
	checkGet(t, d, 16, 4096, all[16:16+4096], api.OK)
	checkCalls(t, d, 2)
}

func TestHowMuch(t *testing.T) { // P10.2, R5
	all := counted(5000)
	d := disk.New(api.Device{Data: all})
	for i, q := range []struct{ pos, n, from, to int }{
		{0, 0, 0, 0}, {0, 1, 0, 1}, {0, 8, 0, 8}, {0, 9, 0, 9}, {3, 20, 3, 23}, {7, 2, 7, 9},
		{0, 4095, 0, 4095}, {0, 4096, 0, 4096}, {1, 4096, 1, 4097},
		{903, 4096, 903, 4999}, {904, 4096, 904, 5000}, {905, 4096, 905, 5000}, {4998, 1, 4998, 4999},
		{4998, 2, 4998, 5000}, {4998, 3, 4998, 5000}, {4999, 1, 4999, 5000}, {4999, 4096, 4999, 5000}, {4999, 0, 0, 0},
		{5000, 0, 0, 0}, {5000, 1, 0, 0}, {5000, 4096, 0, 0}, {5001, 1, 0, 0}, {5007, 1, 0, 0}, {5008, 4096, 0, 0},
		{65536, 4096, 0, 0}, {1 << 32, 4096, 0, 0}, {1 << 62, 4096, 0, 0},
		{math.MaxInt - 4096, 4096, 0, 0}, {math.MaxInt - 4095, 4096, 0, 0}, {math.MaxInt, 0, 0, 0}, {math.MaxInt, 1, 0, 0}, {math.MaxInt, 4096, 0, 0},
	} {
		checkGet(t, d, q.pos, q.n, all[q.from:q.to], api.OK)
		checkCalls(t, d, i+1)
	}
}

func TestNoughtsAreBytes(t *testing.T) { // P10.2
	d := disk.New(api.Device{Data: make([]byte, 12)})
	checkLong(t, d, 12)
	checkGet(t, d, 3, 100, make([]byte, 9), api.OK)
	every := make([]byte, 256)
	for i := range every {
		every[i] = byte(i)
	}
	checkGet(t, disk.New(api.Device{Data: every}), 0, 256, every, api.OK)
}

// A call that asks for no byte is OK, where the sector of its place fails too, and wears nothing off.
func TestNoneAskedFor(t *testing.T) { // P10.2
	d := disk.New(api.Device{Data: counted(20), Bad: []int{0, 3}, Soft: []api.Soft{soft(1, 2), soft(2, 1), soft(3, 1)}, Shorts: []int{1, 2, 3}})
	for i, pos := range []int{0, 7, 8, 15, 16, 19, 20, 24, 31, 32, math.MaxInt} {
		checkGet(t, d, pos, 0, nil, api.OK)
		checkCalls(t, d, i+1)
	}
	for i, pos := range []int{20, 21, 23, 24, 31} {
		checkGet(t, d, pos, 4, nil, api.OK)
		checkCalls(t, d, 11+i+1)
	}
	checkLeft(t, d, 1, 2)
	checkLeft(t, d, 2, 1)
	checkGet(t, d, 0, 1, nil, api.Failed)
	checkGet(t, d, 8, 1, nil, api.Failed)
	checkLeft(t, d, 1, 1)
	checkCalls(t, d, 18)
}

func TestShorts(t *testing.T) { // P10.2
	all := counted(40)
	for _, q := range []struct {
		shorts, asked, want []int
	}{
		{nil, []int{9, 40, 41}, []int{9, 40, 40}},
		{[]int{}, []int{9}, []int{9}},
		{[]int{3}, []int{9, 9, 9}, []int{3, 9, 9}},
		{[]int{0}, []int{9, 9}, []int{9, 9}},
		{[]int{-1}, []int{9, 9}, []int{9, 9}},
		{[]int{math.MinInt}, []int{9, 9}, []int{9, 9}},
		{[]int{1, 1}, []int{9, 9, 9}, []int{1, 1, 9}},
		{[]int{0, 1, -3, 2}, []int{9, 9, 9, 9, 9}, []int{9, 1, 9, 2, 9}},
		{[]int{8, 9, 10}, []int{9, 9, 9, 9}, []int{8, 9, 9, 9}},
		{[]int{40, 41, math.MaxInt, 39}, []int{50, 50, 50, 50}, []int{40, 40, 40, 39}},
		{[]int{5, 6, 7}, []int{0, 9, 0, 9}, []int{0, 6, 0, 9}},
		{[]int{16, 17, 15}, []int{40, 40, 40}, []int{16, 17, 15}},
	} {
		d := disk.New(api.Device{Data: all, Shorts: q.shorts})
		for i, n := range q.asked {
			checkGet(t, d, 0, n, all[:q.want[i]], api.OK)
			checkCalls(t, d, i+1)
		}
	}
}

// Shorts are counted by all calls: those that fail and those past the end take theirs too, and a refused one takes none.
func TestShortsAreOfCalls(t *testing.T) { // P10.2
	all := counted(24)
	d := disk.New(api.Device{Data: all, Bad: []int{1}, Soft: []api.Soft{soft(2, 1)}, Shorts: []int{1, 2, 3, 4, 5, 6}})
	checkGet(t, d, 8, 8, nil, api.Failed)
	checkGet(t, d, 16, 8, nil, api.Failed)
	checkGet(t, d, 24, 8, nil, api.OK)
	checkGet(t, d, 16, 8, all[16:20], api.OK)
	checkGet(t, d, -1, 8, nil, api.Range)
	checkGet(t, d, 16, api.MaxIO+1, nil, api.Range)
	checkGet(t, d, 16, 8, all[16:21], api.OK)
	checkGet(t, d, 22, 8, all[22:], api.OK)
	checkGet(t, d, 16, 8, all[16:], api.OK)
	checkCalls(t, d, 7)
}

// A Short that stops ahead of a sector that fails keeps that from being seen, and one behind it does not.
func TestShortsAndFailures(t *testing.T) { // P10.2
	all := counted(24)
	d := disk.New(api.Device{Data: all, Bad: []int{1}, Shorts: []int{7, 8, 9, 16}})
	for _, want := range []int{7, 8, 8, 8, 8} {
		checkGet(t, d, 0, 24, all[:want], api.OK)
	}
	d = disk.New(api.Device{Data: all, Soft: []api.Soft{soft(1, 2)}, Shorts: []int{1, 1}})
	checkGet(t, d, 8, 8, nil, api.Failed)
	checkGet(t, d, 7, 2, all[7:8], api.OK)
	checkLeft(t, d, 1, 1)
}

func TestBad(t *testing.T) { // P10.2
	all := counted(28)
	for _, q := range []struct {
		bad          []int
		pos, n, want int
		code         api.Code
	}{
		{[]int{0}, 0, 28, 0, api.Failed}, {[]int{0}, 7, 1, 0, api.Failed}, {[]int{0}, 8, 28, 20, api.OK},
		{[]int{1}, 0, 28, 8, api.OK}, {[]int{1}, 7, 28, 1, api.OK}, {[]int{1}, 7, 1, 1, api.OK}, {[]int{1}, 0, 8, 8, api.OK}, {[]int{1}, 0, 9, 8, api.OK},
		{[]int{1}, 8, 1, 0, api.Failed}, {[]int{1}, 15, 28, 0, api.Failed}, {[]int{1}, 16, 28, 12, api.OK}, {[]int{1, 1}, 0, 28, 8, api.OK},
		{[]int{2}, 0, 28, 16, api.OK}, {[]int{2}, 3, 28, 13, api.OK}, {[]int{2}, 3, 12, 12, api.OK}, {[]int{2}, 3, 13, 13, api.OK}, {[]int{2}, 3, 14, 13, api.OK},
		{[]int{3}, 0, 28, 24, api.OK}, {[]int{3}, 23, 28, 1, api.OK}, {[]int{3}, 24, 28, 0, api.Failed}, {[]int{3}, 27, 1, 0, api.Failed}, {[]int{3}, 28, 1, 0, api.OK},
		{[]int{3, 1}, 0, 28, 8, api.OK}, {[]int{3, 1}, 16, 28, 8, api.OK}, {[]int{0, 1, 2, 3}, 9, 1, 0, api.Failed},
		{[]int{4}, 0, 28, 28, api.OK}, {[]int{4}, 32, 1, 0, api.OK}, {[]int{1 << 61, math.MaxInt, 1<<61 + 1}, 0, 28, 28, api.OK},
	} {
		d := disk.New(api.Device{Data: all, Bad: q.bad})
		for i := range 25 { // it never comes to an end
			checkGet(t, d, q.pos, q.n, all[min(q.pos, 28):][:q.want], q.code)
			checkCalls(t, d, i+1)
		}
		for k := range 5 {
			checkLeft(t, d, k, 0)
		}
	}
}

// A sector that is Bad and in Soft fails for ever, and has none left.
func TestBadAndSoft(t *testing.T) { // P10.1, P10.2
	all := counted(24)
	d := disk.New(api.Device{Data: all, Bad: []int{1}, Soft: []api.Soft{soft(1, 2), soft(1, 1), soft(2, 1)}})
	for range 10 {
		checkLeft(t, d, 1, 0)
		checkGet(t, d, 8, 16, nil, api.Failed)
		checkGet(t, d, 0, 24, all[:8], api.OK)
	}
	checkLeft(t, d, 1, 0)
	checkLeft(t, d, 2, 1)
	checkCalls(t, d, 20)
}

func TestTimesOfNothing(t *testing.T) { // P10.1, P10.2
	all := counted(9)
	d := disk.New(api.Device{Data: all, Soft: []api.Soft{soft(0, 0), soft(1, 0), soft(2, 5), soft(0, 0)}})
	checkLeft(t, d, 0, 0)
	checkGet(t, d, 0, 9, all, api.OK)
	checkLeft(t, d, 0, 0)
	checkGet(t, d, 16, 1, nil, api.OK)
	checkLeft(t, d, 2, 0)
}

// Only a call whose place is in the sector wears it off: one that stops there does not.
func TestOnlyTheSectorOfThePlace(t *testing.T) { // P10.2
	all := counted(32)
	d := disk.New(api.Device{Data: all, Soft: []api.Soft{soft(1, 2), soft(2, 2), soft(3, 1)}})
	for _, pos := range []int{0, 1, 6, 7} {
		checkGet(t, d, pos, 32, all[pos:8], api.OK)
		checkGet(t, d, pos, 9, all[pos:8], api.OK)
	}
	left := func(one, two, three int) {
		t.Helper()
		checkLeft(t, d, 1, one)
		checkLeft(t, d, 2, two)
		checkLeft(t, d, 3, three)
	}
	left(2, 2, 1)
	checkGet(t, d, 8, 24, nil, api.Failed)
	left(1, 2, 1)
	checkGet(t, d, 15, 2, nil, api.Failed)
	left(0, 2, 1)
	checkGet(t, d, 15, 2, all[15:16], api.OK)
	left(0, 2, 1)
	checkGet(t, d, 23, 1, nil, api.Failed)
	left(0, 1, 1)
	checkGet(t, d, 16, 16, nil, api.Failed)
	left(0, 0, 1)
	checkGet(t, d, 0, 32, all[:24], api.OK)
	left(0, 0, 1)
	checkGet(t, d, 31, 1, nil, api.Failed)
	left(0, 0, 0)
	checkGet(t, d, 0, 32, all, api.OK)
	checkCalls(t, d, 16)
}

// devices goes through all small ones: their lengths, sectors that are bad, how often each fails, and Shorts.
func devices(see func(api.Device)) {
	lists := [][]int{nil, {1}, {0, 7}, {-2, 8, 9}}
	for _, n := range []int{0, 1, 7, 8, 9, 16, 17, 21} {
		for bad := range 8 {
			for times := range 27 {
				for _, shorts := range lists {
					d := api.Device{Data: counted(n), Shorts: shorts}
					for k := range 3 {
						if bad>>k&1 == 1 {
							d.Bad = append(d.Bad, k)
						}
					}
					for k, left := 0, times; k < 3; k, left = k+1, left/3 {
						for range left % 3 {
							d.Soft = append(d.Soft, soft(k, 1))
						}
					}
					see(d)
				}
			}
		}
	}
}

// same asks a call of both, and all that can be told behind it.
func same(t *testing.T, d *disk.Disk, m *model, pos, n int) {
	t.Helper()
	want, code := m.get(pos, n)
	b, c := d.Get(pos, n)
	if !bytes.Equal(b, want) || c != code || d.Calls() != m.calls {
		t.Fatalf("%+v behind %d calls: Get(%d, %d) is %v, %d; want %v, %d", m.d, m.calls, pos, n, b, c, want, code)
	}
	for k := -1; k < 4; k++ {
		if got, want := d.Left(k), m.left(k); got != want {
			t.Fatalf("%+v behind Get(%d, %d): Left(%d) is %d; want %d", m.d, pos, n, k, got, want)
		}
	}
}

func TestEverySmallDisk(t *testing.T) { // P10.1, P10.2
	devices(func(x api.Device) {
		for _, n := range []int{-1, 0, 1, 3, 8, 9, 16, 30, 4096, 4097} {
			d, m := disk.New(x), &model{d: x}
			for pos := -1; pos < len(x.Data)+2; pos++ {
				same(t, d, m, pos, n)
			}
			same(t, d, m, 0, 30)
		}
	})
}

// histories goes through all lists of so many calls of the menu.
func histories(menu []api.Span, calls int, see func([]api.Span)) {
	var on func(done []api.Span)
	on = func(done []api.Span) {
		if len(done) == calls {
			see(done)
			return
		}
		for _, q := range menu {
			on(append(done, q))
		}
	}
	on(nil)
}

func TestEveryShortHistory(t *testing.T) { // P10.1, P10.2
	menu := []api.Span{{Pos: 0, Len: 0}, {Pos: 0, Len: 17}, {Pos: 7, Len: 2}, {Pos: 8, Len: 9}, {Pos: 16, Len: 1}, {Pos: 15, Len: 9}, {Pos: 17, Len: 1}, {Pos: -1, Len: 1}}
	for _, x := range []api.Device{
		{Data: counted(17), Soft: []api.Soft{soft(0, 1), soft(1, 2)}, Shorts: []int{9, 0, 1}},
		{Data: counted(17), Soft: []api.Soft{soft(1, 1), soft(2, 1)}, Shorts: []int{-1, 10}},
		{Data: counted(17), Bad: []int{1}, Soft: []api.Soft{soft(0, 1), soft(2, 2)}},
		{Data: counted(17), Bad: []int{2}, Soft: []api.Soft{soft(0, 2), soft(1, 1), soft(2, 1)}, Shorts: []int{0, 0, 8, 4}},
	} {
		histories(menu, 5, func(l []api.Span) {
			d, m := disk.New(x), &model{d: x}
			for _, q := range l {
				same(t, d, m, q.Pos, q.Len)
			}
		})
	}
}

// A disk as great as one may be, with sectors that fail all over it.
func TestTheGreatest(t *testing.T) { // P10.1, P10.2
	x := api.Device{Data: counted(api.MaxDisk)}
	for k := 3; k < 8192; k += 97 {
		x.Bad = append(x.Bad, k)
		x.Soft = append(x.Soft, soft(k+50, 1+k%20))
	}
	d, m := disk.New(x), &model{d: x}
	for pos := 0; pos < api.MaxDisk; pos += 331 {
		same(t, d, m, pos, api.MaxIO)
		same(t, d, m, pos, api.MaxIO)
	}
	for _, k := range []int{3, 53, 54, 100, 150, 8190, 8191, 8192} {
		checkLeft(t, d, k, m.left(k))
	}
}

func TestTwoOfOneDevice(t *testing.T) { // P10.1, P10.2, R2
	all := counted(16)
	x := api.Device{Data: all, Soft: []api.Soft{soft(0, 1), soft(1, 2)}, Shorts: []int{8, 3}}
	d, e := disk.New(x), disk.New(x)
	checkGet(t, d, 0, 16, nil, api.Failed)
	checkGet(t, d, 0, 16, all[:3], api.OK)
	checkGet(t, d, 8, 16, nil, api.Failed)
	checkCalls(t, e, 0)
	checkLeft(t, e, 0, 1)
	checkLeft(t, e, 1, 2)
	checkGet(t, e, 8, 16, nil, api.Failed)
	checkCalls(t, d, 3)
	checkLeft(t, d, 0, 0)
	checkLeft(t, d, 1, 1)
	checkLeft(t, e, 0, 1)
	checkLeft(t, e, 1, 1)
	f := disk.New(x)
	checkLeft(t, f, 1, 2)
	checkCalls(t, f, 0)
	checkGet(t, e, 0, 16, nil, api.Failed)
	checkGet(t, e, 0, 16, all[:8], api.OK)
	checkGet(t, f, 0, 16, nil, api.Failed)
	checkGet(t, f, 0, 16, all[:3], api.OK)
}

// roomyDevice is x with spare room that would change it, were it read.
func roomyDevice(x api.Device) api.Device {
	return api.Device{
		Data:   spare.Behind(x.Data, 91, 92, 93),
		Bad:    spare.Behind(x.Bad, 0, -1, 1),
		Soft:   spare.Behind(x.Soft, soft(0, 1), soft(1, 21), soft(-1, 1)),
		Shorts: spare.Behind(x.Shorts, 1, 2, 3),
	}
}

func TestWhatIsHandedInStays(t *testing.T) { // R2, R5
	for _, q := range []api.Device{
		{},
		{Data: counted(21), Bad: []int{1}, Soft: []api.Soft{soft(0, 1), soft(2, 2)}, Shorts: []int{0, 5}},
		{Data: counted(8192), Bad: []int{900, 3, 3}, Soft: []api.Soft{soft(7, 20), soft(7, 20), soft(8000, 1)}, Shorts: []int{4096}},
	} {
		x := roomyDevice(q)
		data, bad, softs, shorts := spare.Whole(x.Data), spare.Whole(x.Bad), spare.Whole(x.Soft), spare.Whole(x.Shorts)
		if !disk.May(x) {
			t.Fatal("what stands behind the lists is read")
		}
		d, m := disk.New(x), &model{d: copied(q)}
		checkLong(t, d, len(q.Data))
		for pos := -1; pos < len(q.Data)+40; pos += 3 {
			same(t, d, m, pos, 4096)
		}
		if !bytes.Equal(spare.Whole(x.Data), data) || !slices.Equal(spare.Whole(x.Bad), bad) || !slices.Equal(spare.Whole(x.Soft), softs) || !slices.Equal(spare.Whole(x.Shorts), shorts) {
			t.Error("what was handed in is changed")
		}
	}
}

func TestWhatIsHandedInIsNotKept(t *testing.T) { // R2
	q := api.Device{Data: counted(21), Bad: []int{1}, Soft: []api.Soft{soft(0, 1), soft(2, 2)}, Shorts: []int{0, 5, 7, 0, 3}}
	x := roomyDevice(q)
	d, m := disk.New(x), &model{d: copied(q)}
	change := func(data byte, bad int, s api.Soft, short int) {
		spare.Spoil(x.Data, data)
		spare.Spoil(x.Bad, bad)
		spare.Spoil(x.Soft, s)
		spare.Spoil(x.Shorts, short)
		checkLong(t, d, 21)
	}
	change(0, 0, soft(0, 9), 1)
	same(t, d, m, 0, 21)
	same(t, d, m, 0, 21)
	change(255, -1, soft(-1, 21), 2)
	same(t, d, m, 16, 5)
	same(t, d, m, 16, 5)
	change(7, 2, soft(2, 0), -1)
	same(t, d, m, 16, 5)
	same(t, d, m, 16, 5)
	same(t, d, m, 8, 5)
	same(t, d, m, 0, 21)
	if disk.May(x) != true || disk.New(x).Left(2) != 0 {
		t.Error("a disk of what is now there is not of that")
	}
}

func TestAnswersAreNew(t *testing.T) { // R2
	all := counted(21)
	d := disk.New(api.Device{Data: all, Bad: []int{2}, Shorts: []int{3, 16, 8}})
	var answers, wants [][]byte
	for _, q := range []struct{ pos, n, want int }{{0, 21, 3}, {0, 21, 16}, {0, 21, 8}, {0, 21, 16}, {1, 4, 4}, {3, 2, 2}, {0, 0, 0}, {21, 5, 0}, {5, 11, 11}, {0, 16, 16}} {
		b, code := d.Get(q.pos, q.n)
		if code != api.OK || !bytes.Equal(b, all[q.pos:][:q.want]) {
			t.Fatalf("Get(%d, %d) is %v, %d", q.pos, q.n, b, code)
		}
		spare.Spoil(b[len(b):], 99)
		answers, wants = append(answers, b), append(wants, slices.Clone(b))
	}
	for i, b := range answers {
		spare.Spoil(b, 99)
		for j := i + 1; j < len(answers); j++ {
			if !bytes.Equal(answers[j], wants[j]) {
				t.Fatalf("answer %d changes with answer %d", j, i)
			}
		}
	}
	checkGet(t, d, 0, 21, all[:16], api.OK)
	if !bytes.Equal(all, counted(21)) {
		t.Error("what was handed in changes with an answer")
	}
}

// The same of nil and of lists without elements.
func TestNilIsEmpty(t *testing.T) { // R4
	for _, x := range []api.Device{{}, {Data: []byte{}, Bad: []int{}, Soft: []api.Soft{}, Shorts: []int{}}, {Data: make([]byte, 0, 9), Bad: make([]int, 0, 9), Soft: make([]api.Soft, 0, 9), Shorts: make([]int, 0, 9)}} {
		if !disk.May(x) {
			t.Error("an empty one may be")
		}
		checkZero(t, disk.New(x))
	}
}
