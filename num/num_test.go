package num_test

import (
	"fmt"
	"math"
	"math/big"
	"regexp"
	"strings"
	"testing"

	"salvor/api"
	"salvor/num"
)

// edges are the numbers at which texts turn: around 0, around each power of 10 and of 2, around the limit, and the type's ends, above and below 0.
func edges() []int {
	l := []int{math.MinInt, math.MinInt + 1, math.MaxInt, math.MaxInt - 1}
	around := func(n int) {
		for d := -1; d <= 1; d++ {
			l = append(l, n+d, -n-d)
		}
	}
	around(0)
	around(api.MaxOff)
	around(1234567890123456789)
	around(0x0123456789ABCDEF)
	for n := 10; n <= math.MaxInt/10; n *= 10 {
		around(n)
	}
	for shift := range 63 {
		around(1 << shift)
	}
	return l
}

// row is a text, and what it is read as.
type row struct {
	s    string
	want int
	ok   bool
}

func check(t *testing.T, get func(string) (int, bool), s string, want int, wantOK bool) {
	t.Helper()
	if n, ok := get(s); n != want || ok != wantOK {
		t.Errorf("%q: %d, %v; want %d, %v", s, n, ok, want, wantOK)
	}
}

func checkRows(t *testing.T, get func(string) (int, bool), rows []row) {
	t.Helper()
	for _, q := range rows {
		check(t, get, q.s, q.want, q.ok)
	}
}

// checkNone asks that get takes none of the texts.
func checkNone(t *testing.T, get func(string) (int, bool), texts ...string) {
	t.Helper()
	for _, s := range texts {
		check(t, get, s, 0, false)
	}
}

// allWith is s with each byte that there is in turn set in ahead of it, behind it, into its midst, and in place of its last.
func allWith(s string) []string {
	var texts []string
	for i := range 256 {
		b := string([]byte{byte(i)})
		mid := len(s) / 2
		texts = append(texts, b+s, s+b, s[:mid]+b+s[mid:], s[:len(s)-1]+b)
	}
	return texts
}

// allOf is each text of at most most of the letters.
func allOf(letters string, most int) []string {
	texts := []string{""}
	last := texts
	for range most {
		var next []string
		for _, s := range last {
			for i := range len(letters) {
				next = append(next, s+letters[i:i+1])
			}
		}
		texts = append(texts, next...)
		last = next
	}
	return texts
}

// exact is the number that digits of base stand for, told only if it is at most MaxOff.
func exact(digits string, base int) (int, bool) {
	b, ok := new(big.Int).SetString(digits, base)
	if !ok || b.Cmp(big.NewInt(api.MaxOff)) > 0 {
		return 0, false
	}
	return int(b.Int64()), true
}

func TestRunsOfTheChapter(t *testing.T) {
	check(t, num.Get, "2x3k", 6144, true)
	if s := num.Hex(255); s != "0x000000FF" {
		t.Error(s)
	}
}

func TestDec(t *testing.T) { // P2.1
	for _, q := range []struct {
		n    int
		want string
	}{
		{0, "0"}, {1, "1"}, {9, "9"}, {10, "10"}, {99, "99"}, {100, "100"}, {4711, "4711"}, {1234567890, "1234567890"},
		{-1, "-1"}, {-9, "-9"}, {-10, "-10"}, {-4711, "-4711"},
		{api.MaxOff, "4611686018427387904"}, {api.MaxOff + 1, "4611686018427387905"}, {-api.MaxOff, "-4611686018427387904"},
		{math.MaxInt, "9223372036854775807"}, {math.MinInt, "-9223372036854775808"}, {math.MinInt + 1, "-9223372036854775807"},
	} {
		if s := num.Dec(q.n); s != q.want {
			t.Errorf("Dec(%d): %q", q.n, s)
		}
	}
	for _, n := range edges() {
		if s := num.Dec(n); s != fmt.Sprint(n) {
			t.Errorf("Dec(%d): %q", n, s)
		}
	}
	for n := -2000; n <= 2000; n++ {
		if s := num.Dec(n); s != fmt.Sprint(n) {
			t.Errorf("Dec(%d): %q", n, s)
		}
	}
}

func TestHex(t *testing.T) { // P2.1
	for _, q := range []struct {
		n    int
		want string
	}{
		{0, "0x00000000"}, {1, "0x00000001"}, {9, "0x00000009"}, {10, "0x0000000A"}, {15, "0x0000000F"}, {16, "0x00000010"}, {42, "0x0000002A"},
		{0xFFFFFFF, "0x0FFFFFFF"}, {0x10000000, "0x10000000"}, {0x89ABCDEF, "0x89ABCDEF"},
		{0xFFFFFFFF, "0xFFFFFFFF"}, {0x100000000, "0x100000000"}, {0x123456789A, "0x123456789A"},
		{api.MaxOff, "0x4000000000000000"}, {api.MaxOff + 1, "0x4000000000000001"}, {math.MaxInt, "0x7FFFFFFFFFFFFFFF"},
		{-1, ""}, {-255, ""}, {-api.MaxOff, ""}, {math.MinInt, ""}, {math.MinInt + 1, ""},
	} {
		if s := num.Hex(q.n); s != q.want {
			t.Errorf("Hex(%d): %q", q.n, s)
		}
	}
	for _, n := range edges() {
		want := ""
		if n >= 0 {
			want = fmt.Sprintf("0x%08X", n)
		}
		if s := num.Hex(n); s != want {
			t.Errorf("Hex(%d): %q, want %q", n, s, want)
		}
	}
}

func TestGetDec(t *testing.T) { // P2.2
	checkRows(t, num.GetDec, []row{
		{"0", 0, true}, {"1", 1, true}, {"9", 9, true}, {"10", 10, true}, {"100", 100, true}, {"4711", 4711, true}, {"1234567890", 1234567890, true},
		{"999999999999999999", 999999999999999999, true}, {"1000000000000000000", 1000000000000000000, true},
		{"4611686018427387903", api.MaxOff - 1, true}, {"4611686018427387904", api.MaxOff, true},
	})
	checkNone(t, num.GetDec,
		"4611686018427387905", "4611686018427387910", "9223372036854775807", "9223372036854775808", "9999999999999999999",
		"10000000000000000000", "18446744073709551615", "18446744073709551616", "18446744073709551617", "99999999999999999999", "36893488147419103233",
		"00", "01", "007", "0000000000000000001", "0000000000000000000", "00000000000000000000", "04611686018427387904",
		"", "+", "-", "+1", "-1", "-0", "+0", "1-", "1+", " ", " 1", "1 ", "1 2", "1\n", "\t1", "1\x00", "\x001",
		"x", "0x", "0x1", "0X1", "1x1", "A", "a", "1A", "1a", "F", "1e3", "1.0", "1,0", "1_0", "1k", "1c", "1b", "0b1", "0o7",
		"\u0661", "\uff11", "\xff", "1\xb2", "/", ":", strings.Repeat("1", 1000), strings.Repeat("0", 1000),
	)
}

func TestGetHex(t *testing.T) { // P2.2
	checkRows(t, num.GetHex, []row{
		{"0x0", 0, true}, {"0x1", 1, true}, {"0x9", 9, true}, {"0xa", 10, true}, {"0xA", 10, true}, {"0xf", 15, true}, {"0xF", 15, true},
		{"0x10", 16, true}, {"0x2A", 42, true}, {"0x2a", 42, true}, {"0xfF", 255, true}, {"0xaBcDeF", 0xABCDEF, true}, {"0xAbCdEf", 0xABCDEF, true},
		{"0x12345678", 0x12345678, true}, {"0x90ABCDEF", 0x90ABCDEF, true}, {"0x123456789", 0x123456789, true}, {"0x0123456789abcdef", 0x0123456789ABCDEF, true},
		{"0x00", 0, true}, {"0x01", 1, true}, {"0x000000FF", 255, true}, {"0x0000000000000000", 0, true}, {"0x0000000000000001", 1, true},
		{"0x3fffffffffffffff", api.MaxOff - 1, true}, {"0x4000000000000000", api.MaxOff, true},
	})
	checkNone(t, num.GetHex,
		"0x4000000000000001", "0x4000000000000010", "0x7fffffffffffffff", "0x8000000000000000", "0xFFFFFFFFFFFFFFFF",
		"0x10000000000000000", "0x10000000000000001", "0x00000000000000000", "0x00000000000000001", "0x04000000000000000",
		"", "0", "x", "0x", "x1", "1", "00", "10", "FF", "0X1", "0XFF", "1x1", "Ox1", "00x1", " 0x1", "0 x1", "0x 1", "0x1 ", "0x1\n",
		"-0x1", "+0x1", "0x-1", "0x+1", "0x1-", "0x_1", "0x1_0", "0x0x1", "0xx1", "0xg", "0xG", "0x1g", "0x1G", "0xz", "0x@", "0x`", "0x/", "0x:",
		"0x\x00", "0x\xff", "0x\uff11", "0x1k", "#1", "$1", "1h", "0x"+strings.Repeat("0", 1000),
	)
}

func TestGetDecAndGetHexOfAllBytes(t *testing.T) { // P2.2
	dec := regexp.MustCompile(`\A(0|[1-9][0-9]{0,18})\z`)
	hex := regexp.MustCompile(`\A0x[0-9A-Fa-f]{1,16}\z`)
	texts := allOf("\x000189aAfFgxX+-_ ", 4)
	for _, s := range []string{"1", "42", "0x1", "0x2A", "461168601842738790", "4611686018427387904", "0x400000000000000", "0x4000000000000000"} {
		texts = append(texts, allWith(s)...)
	}
	for _, s := range texts {
		want, ok := 0, false
		if dec.MatchString(s) {
			want, ok = exact(s, 10)
		}
		check(t, num.GetDec, s, want, ok)
		want, ok = 0, false
		if hex.MatchString(s) {
			want, ok = exact(s[2:], 16)
		}
		check(t, num.GetHex, s, want, ok)
	}
}

func TestWhatIsWrittenIsRead(t *testing.T) { // P2.1, P2.2, P2.3
	for _, n := range edges() {
		want, ok := 0, false
		if n >= 0 && n <= api.MaxOff {
			want, ok = n, true
		}
		check(t, num.GetDec, num.Dec(n), want, ok)
		check(t, num.Get, num.Dec(n), want, ok)
		check(t, num.GetHex, num.Hex(n), want, ok)
		check(t, num.GetHex, strings.ToLower(num.Hex(n)), want, ok)
	}
}

func TestGetOfOnePart(t *testing.T) { // P2.3
	checkRows(t, num.Get, []row{
		{"0", 0, true}, {"1", 1, true}, {"42", 42, true}, {"007", 7, true}, {"00", 0, true}, {"0000000000000000000", 0, true}, {"0000000000000000009", 9, true},
		{"1c", 1, true}, {"1w", 2, true}, {"1b", 512, true}, {"1kB", 1000, true}, {"1k", 1024, true}, {"1K", 1024, true},
		{"1MB", 1000000, true}, {"1M", 1048576, true}, {"1GB", 1000000000, true}, {"1G", 1073741824, true},
		{"7c", 7, true}, {"7w", 14, true}, {"7b", 3584, true}, {"7kB", 7000, true}, {"7k", 7168, true}, {"7K", 7168, true},
		{"7MB", 7000000, true}, {"7M", 7340032, true}, {"7GB", 7000000000, true}, {"7G", 7516192768, true},
		{"0G", 0, true}, {"0c", 0, true}, {"007k", 7168, true}, {"0000000000000000003w", 6, true},
		{"4611686018427387904", api.MaxOff, true}, {"4611686018427387904c", api.MaxOff, true}, {"2305843009213693952w", api.MaxOff, true},
		{"9007199254740992b", api.MaxOff, true}, {"4503599627370496k", api.MaxOff, true}, {"4503599627370496K", api.MaxOff, true},
		{"4398046511104M", api.MaxOff, true}, {"4294967296G", api.MaxOff, true},
		{"4611686018427387kB", 4611686018427387000, true}, {"4611686018427MB", 4611686018427000000, true}, {"4611686018GB", 4611686018000000000, true},
	})
	checkNone(t, num.Get,
		"4611686018427387905", "4611686018427387905c", "9223372036854775807", "9223372036854775808", "9999999999999999999", "9999999999999999999G",
		"10000000000000000000", "18446744073709551616", "18446744073709551617", "00000000000000000000", "00000000000000000001", "00000000000000000001k",
		"2305843009213693953w", "9007199254740993b", "4503599627370497k", "4503599627370497K", "4398046511105M", "4294967297G",
		"4611686018427388kB", "4611686018428MB", "4611686019GB", "4611686018427387904w", "4611686018427387904G", "9223372036854775808w",
		"", "c", "w", "b", "k", "K", "kB", "MB", "GB", "M", "G", "B", "1B", "1C", "1W", "1KB", "1Kb", "1kb", "1m", "1g", "1mB", "1gB", "1Mb", "1Gb",
		"1cB", "1wB", "1bB", "1kk", "1kK", "1kBB", "1MM", "1GG", "1kBc", "1ck", "1cc", "1k1", "1c1", "1k 1", "1T", "1TB", "1KiB", "1kiB", "1iB",
		"+1", "-1", "-0", "+", "-", "1-", "1+", " 1", "1 ", " ", "1 k", "1k ", "1\n", "1_0", "1.5k", "1,5", "k1", "a", "1a", "1f", "1e3", "\x00", "1\x00", "1k\x00", "\xff", "1\xff", "\uff11",
	)
}

func TestGetOfManyParts(t *testing.T) { // P2.3
	checkRows(t, num.Get, []row{
		{"2x3", 6, true}, {"2x3x7", 42, true}, {"2cx3cx7c", 42, true}, {"2x3k", 6144, true}, {"2kx3", 6144, true}, {"1kx1k", 1048576, true}, {"1kBx1kBx1kB", 1000000000, true}, {"002x003", 6, true},
		{"0x10", 0, true}, {"10x0", 0, true}, {"1x0x1", 0, true}, {"0x0", 0, true}, {"00x01", 0, true},
		{"4611686018427387904x0", 0, true}, {"0x4611686018427387904", 0, true},
		{"4611686018427387904x4611686018427387904x0", 0, true}, {"0x4611686018427387904x4611686018427387904", 0, true}, {"4611686018427387904x0x4611686018427387904", 0, true},
		{"4294967296Gx4294967296Gx0G", 0, true},
		{"4611686018427387904x1", api.MaxOff, true}, {"1x4611686018427387904", api.MaxOff, true}, {"2147483648x2147483648", api.MaxOff, true}, {"1Gx1Gx4", api.MaxOff, true}, {"2Gx2G", api.MaxOff, true},
		{strings.Repeat("2x", 61) + "2", api.MaxOff, true}, {strings.Repeat("1x", 100000) + "5", 5, true}, {strings.Repeat("2x", 100000) + "0", 0, true},
	})
	checkNone(t, num.Get,
		"4611686018427387905x0", "0x4611686018427387905", "4611686018427387904wx0", "0x4611686018427387904w", "0x4294967297G", "0x9999999999999999999", "0x10000000000000000000", "0x00000000000000000000",
		"4611686018427387904x2", "2x4611686018427387904", "4611686018427387904x4", "2147483648x2147483649", "1Gx1Gx5", "2Gx2Gx2", "4294967296x4294967296", "4294967296x4294967296x1", "4611686018427387904x4611686018427387904",
		strings.Repeat("2x", 62)+"2", strings.Repeat("2x", 63)+"2", strings.Repeat("2x", 64)+"2",
		"x", "xx", "x1", "1x", "x1x", "1xx2", "1xx", "xx1", "0x", "x0", "0xx0", "2x3x", "x2x3", "2kx", "xk", "1xk", "kx1", strings.Repeat("1x", 100000),
		"1X2", "1*2", "1x-1", "-1x1", "-1x-1", "1x+1", "1 x2", "1x 2", "1x2 ", " 1x2", "0x-1", "0xF", "0xk", "0x1KB", "1KBx0", "1x2\n", "0x\x00", "1x\xff",
	)
}

// readParts is what the form of the chapter makes of s, reckoned without limits.
func readParts(form *regexp.Regexp, s string) (int, bool) {
	units := map[string]int64{"": 1, "c": 1, "w": 2, "b": 512, "kB": 1000, "k": 1 << 10, "K": 1 << 10, "MB": 1e6, "M": 1 << 20, "GB": 1e9, "G": 1 << 30}
	top := big.NewInt(api.MaxOff)
	product, ok := big.NewInt(1), true
	for p := range strings.SplitSeq(s, "x") {
		m := form.FindStringSubmatch(p)
		if m == nil {
			return 0, false
		}
		n, _ := new(big.Int).SetString(m[1], 10)
		n.Mul(n, big.NewInt(units[m[2]]))
		ok = ok && n.Cmp(top) <= 0
		product.Mul(product, n)
	}
	if !ok || product.Cmp(top) > 0 {
		return 0, false
	}
	return int(product.Int64()), true
}

func TestGetAgainstExactNumbers(t *testing.T) { // P2.3
	form := regexp.MustCompile(`\A([0-9]{1,19})(c|w|b|kB|k|K|MB|M|GB|G|)\z`)
	texts := allOf("02xcwbkKMGBC-", 4)
	for _, s := range []string{"1", "12", "12kB", "2x3", "3kBx2M", "2305843009213693952", "461168601842738790", "4611686018427387904x1"} {
		texts = append(texts, allWith(s)...)
	}
	var parts []string
	for _, n := range []string{"0", "1", "03", "1000", "4294967296", "4398046511104", "2305843009213693952", "4611686018427387904", "4611686018427387905", "00000000000000000001"} {
		for _, unit := range []string{"", "c", "w", "b", "kB", "k", "K", "MB", "M", "GB", "G", "KB"} {
			parts = append(parts, n+unit)
		}
	}
	for _, a := range parts {
		texts = append(texts, a)
		for _, b := range parts {
			texts = append(texts, a+"x"+b, a+"x2x"+b, a+"x"+b+"x0")
		}
	}
	for _, s := range texts {
		want, ok := readParts(form, s)
		check(t, num.Get, s, want, ok)
	}
}
