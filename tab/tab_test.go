package tab_test

import (
	"bytes"
	"slices"
	"strconv"
	"strings"
	"testing"

	"salvor/tab"
)

// The tables in full, 16 bytes a line, in base 16.
const (
	wholeEbcdic = `
		00 01 02 03 04 06 07 08 09 05 25 0A 0B 0D 0C 0E
		0F 10 11 12 13 14 15 16 17 18 19 1A 1B 1C 1D 1E
		40 5A 7F 7B 5B 6C 50 7D 4D 5D 5C 4E 6B 60 4B 61
		F0 F1 F2 F3 F4 F5 F6 F7 F8 F9 7A 5E 4C 7E 6E 6F
		7C C1 C2 C3 C4 C5 C6 C7 C8 C9 D1 D2 D3 D4 D5 D6
		D7 D8 D9 E2 E3 E4 E5 E6 E7 E8 E9 AD E0 BD 9A 6D
		79 81 82 83 84 85 86 87 88 89 91 92 93 94 95 96
		97 98 99 A2 A3 A4 A5 A6 A7 A8 A9 C0 4F D0 5F 1F
		20 21 22 23 24 26 27 28 29 2A 2B 2C 2D 2E 2F 30
		31 32 33 34 35 36 37 38 39 3A 3B 3C 3D 3E 3F 41
		42 43 44 45 46 47 48 49 4A 51 52 53 54 55 56 57
		58 59 62 63 64 65 66 67 68 69 6A 70 71 72 73 74
		75 76 77 78 80 8A 8B 8C 8D 8E 8F 90 9B 9C 9D 9E
		9F A0 A1 AA AB AC AE AF B0 B1 B2 B3 B4 B5 B6 B7
		B8 B9 BA BB BC BE BF CA CB CC CD CE CF DA DB DC
		DD DE DF E1 EA EB EC ED EE EF FA FB FC FD FE FF`
	wholeIbm = `
		00 01 02 03 04 06 07 08 09 05 25 0A 0B 0D 0C 0E
		0F 10 11 12 13 14 15 16 17 18 19 1A 1B 1C 1D 1E
		40 5A 7F 7B 5B 6C 50 7D 4D 5D 5C 4E 6B 60 4B 61
		F0 F1 F2 F3 F4 F5 F6 F7 F8 F9 7A 5E 4C 7E 6E 6F
		7C C1 C2 C3 C4 C5 C6 C7 C8 C9 D1 D2 D3 D4 D5 D6
		D7 D8 D9 E2 E3 E4 E5 E6 E7 E8 E9 AD E0 BD 5F 6D
		79 81 82 83 84 85 86 87 88 89 91 92 93 94 95 96
		97 98 99 A2 A3 A4 A5 A6 A7 A8 A9 C0 4F D0 A1 1F
		20 21 22 23 24 26 27 28 29 2A 2B 2C 2D 2E 2F 30
		31 32 33 34 35 36 37 38 39 3A 3B 3C 3D 3E 3F 41
		42 43 44 45 46 47 48 49 4A 51 52 53 54 55 56 57
		58 59 62 63 64 65 66 67 68 69 6A 70 71 72 73 74
		75 76 77 78 80 8A 8B 8C 8D 8E 8F 90 9A 9B 9C 9D
		9E 9F A0 AA AB AC AE AF B0 B1 B2 B3 B4 B5 B6 B7
		B8 B9 BA BB BC BE BF CA CB CC CD CE CF DA DB DC
		DD DE DF E1 EA EB EC ED EE EF FA FB FC FD FE FF`
	wholeAscii = `
		00 01 02 03 04 09 05 06 07 08 0B 0C 0E 0D 0F 10
		11 12 13 14 15 16 17 18 19 1A 1B 1C 1D 1E 1F 7F
		80 81 82 83 84 0A 85 86 87 88 89 8A 8B 8C 8D 8E
		8F 90 91 92 93 94 95 96 97 98 99 9A 9B 9C 9D 9E
		20 9F A0 A1 A2 A3 A4 A5 A6 A7 A8 2E 3C 28 2B 7C
		26 A9 AA AB AC AD AE AF B0 B1 21 24 2A 29 3B 7E
		2D 2F B2 B3 B4 B5 B6 B7 B8 B9 BA 2C 25 5F 3E 3F
		BB BC BD BE BF C0 C1 C2 C3 60 3A 23 40 27 3D 22
		C4 61 62 63 64 65 66 67 68 69 C5 C6 C7 C8 C9 CA
		CB 6A 6B 6C 6D 6E 6F 70 71 72 5E CC CD CE CF D0
		D1 D2 73 74 75 76 77 78 79 7A D3 D4 D5 5B D6 D7
		D8 D9 DA DB DC DD DE DF E0 E1 E2 E3 E4 5D E5 E6
		7B 41 42 43 44 45 46 47 48 49 E7 E8 E9 EA EB EC
		7D 4A 4B 4C 4D 4E 4F 50 51 52 ED EE EF F0 F1 F2
		5C F3 53 54 55 56 57 58 59 5A F4 F5 F6 F7 F8 F9
		30 31 32 33 34 35 36 37 38 39 FA FB FC FD FE FF`
)

// What the chapter names for Ebcdic, in its own words.
const (
	namedAlone = "00 00, 09 05, 0A 25, 0D 0D, 20 40, 21 5A, 22 7F, 23 7B, 24 5B, 25 6C, 26 50, 27 7D, 28 4D, 29 5D, 2A 5C, 2B 4E, 2C 6B, 2D 60, 2E 4B, 2F 61, 3A 7A, 3B 5E, 3C 4C, 3D 7E, 3E 6E, 3F 6F, 40 7C, 5B AD, 5C E0, 5D BD, 5E 9A, 5F 6D, 60 79, 7B C0, 7C 4F, 7D D0, 7E 5F"
	namedRows  = "30 to 39 F0 to F9, 41 to 49 C1 to C9, 4A to 52 D1 to D9, 53 to 5A E2 to E9, 61 to 69 81 to 89, 6A to 72 91 to 99, 73 to 7A A2 to A9"
)

// hexes is the numbers of a text of pairs of digits, whatever else stands between them.
func hexes(t *testing.T, text string) []byte {
	t.Helper()
	var l []byte
	for _, word := range strings.FieldsFunc(text, func(r rune) bool { return strings.ContainsRune(" ,\n\tto", r) }) {
		n, err := strconv.ParseUint(word, 16, 8)
		if err != nil {
			t.Fatal(err)
		}
		l = append(l, byte(n))
	}
	return l
}

// namedPairs is what the chapter names, byte for byte.
func namedPairs(t *testing.T) map[byte]byte {
	t.Helper()
	pairs := map[byte]byte{}
	for p := range slices.Chunk(hexes(t, namedAlone), 2) {
		pairs[p[0]] = p[1]
	}
	for p := range slices.Chunk(hexes(t, namedRows), 4) {
		for i := range p[1] - p[0] + 1 {
			pairs[p[0]+i] = p[2] + i
		}
		if pairs[p[1]] != p[3] {
			t.Fatalf("the row of %02X ends at %02X", p[0], pairs[p[1]])
		}
	}
	return pairs
}

func checkTable(t *testing.T, name string, got [256]byte, want string) {
	t.Helper()
	l := hexes(t, want)
	if len(l) != 256 {
		t.Fatal(name, len(l))
	}
	for i, b := range got {
		if b != l[i] {
			t.Errorf("%s: %02X becomes %02X; want %02X", name, i, b, l[i])
		}
	}
}

// same is the table by which each byte stays.
func same() [256]byte {
	var x [256]byte
	for i := range x {
		x[i] = byte(i)
	}
	return x
}

// every is each byte once.
func every() []byte {
	x := same()
	return x[:]
}

type namedTable struct {
	name string
	make func() [256]byte
}

func five() []namedTable {
	return []namedTable{{"Lower", tab.Lower}, {"Upper", tab.Upper}, {"Ebcdic", tab.Ebcdic}, {"Ibm", tab.Ibm}, {"Ascii", tab.Ascii}}
}

func TestRunOfTheChapter(t *testing.T) {
	if b := tab.Map(tab.Ebcdic(), []byte("A1 ")); !bytes.Equal(b, []byte{0xC1, 0xF1, 0x40}) {
		t.Errorf("% X", b)
	}
}

func TestLowerAndUpper(t *testing.T) { // P5.1
	const small, great = "abcdefghijklmnopqrstuvwxyz", "ABCDEFGHIJKLMNOPQRSTUVWXYZ"
	lower, upper := same(), same()
	for i := range small {
		lower[great[i]] = small[i]
		upper[small[i]] = great[i]
	}
	if got := tab.Lower(); got != lower {
		t.Errorf("Lower: % X", got)
	}
	if got := tab.Upper(); got != upper {
		t.Errorf("Upper: % X", got)
	}
	for _, b := range []byte{0, '@', '[', '`', '{', 0x7F, 0x80, 0xC0, 0xC1, 0xDF, 0xE0, 0xE1, 0xFE, 0xFF} {
		if x, y := tab.Lower()[b], tab.Upper()[b]; x != b || y != b {
			t.Errorf("%02X becomes %02X and %02X", b, x, y)
		}
	}
}

func TestWholeTables(t *testing.T) { // P5.1
	checkTable(t, "Ebcdic", tab.Ebcdic(), wholeEbcdic)
	checkTable(t, "Ibm", tab.Ibm(), wholeIbm)
	checkTable(t, "Ascii", tab.Ascii(), wholeAscii)
}

// checkNamed asks that pairs hold in x, and that the bytes that are not named and those that nothing named becomes are, rising, each other's.
func checkNamed(t *testing.T, name string, x [256]byte, pairs map[byte]byte) {
	t.Helper()
	taken := map[byte]bool{}
	for from, to := range pairs {
		if x[from] != to {
			t.Errorf("%s: %02X becomes %02X; want %02X", name, from, x[from], to)
		}
		taken[to] = true
	}
	var got, want []byte
	for i := range 256 {
		if _, ok := pairs[byte(i)]; !ok {
			got = append(got, x[i])
		}
		if !taken[byte(i)] {
			want = append(want, byte(i))
		}
	}
	if !bytes.Equal(got, want) {
		t.Errorf("%s: those that are not named become % X; want % X", name, got, want)
	}
}

func TestNamedAndNotNamed(t *testing.T) { // P5.1
	pairs := namedPairs(t)
	if len(pairs) != 99 {
		t.Fatal(len(pairs))
	}
	checkNamed(t, "Ebcdic", tab.Ebcdic(), pairs)
	pairs[0x5E], pairs[0x7E] = 0x5F, 0xA1
	checkNamed(t, "Ibm", tab.Ibm(), pairs)
}

func TestWhereIbmDiffers(t *testing.T) { // P5.1
	e, ibm := tab.Ebcdic(), tab.Ibm()
	differ := map[byte][2]byte{
		'^': {0x9A, 0x5F}, '~': {0x5F, 0xA1},
		// 9A is free and A1 is not, so what lies between them moves by one.
		0xCC: {0x9B, 0x9A}, 0xCD: {0x9C, 0x9B}, 0xCE: {0x9D, 0x9C}, 0xCF: {0x9E, 0x9D},
		0xD0: {0x9F, 0x9E}, 0xD1: {0xA0, 0x9F}, 0xD2: {0xA1, 0xA0},
	}
	for i := range 256 {
		got := [2]byte{e[i], ibm[i]}
		want, ok := differ[byte(i)]
		if ok && got != want || !ok && e[i] != ibm[i] {
			t.Errorf("%02X becomes % X; want % X", i, got, want)
		}
	}
}

func TestThereAndBack(t *testing.T) { // P5.1
	e, a := tab.Ebcdic(), tab.Ascii()
	for i := range 256 {
		if a[e[i]] != byte(i) {
			t.Errorf("%02X comes back as %02X from Ebcdic", i, a[e[i]])
		}
		if e[a[i]] != byte(i) {
			t.Errorf("%02X comes back as %02X from Ascii", i, e[a[i]])
		}
	}
	ibm := tab.Ibm()
	if a[ibm['^']] != '~' || a[ibm['~']] != 0xD2 || a[ibm[0xCC]] != '^' {
		t.Error("Ascii is back from Ibm, not from Ebcdic")
	}
}

func TestNoTwoBecomeOne(t *testing.T) { // P5.3
	for _, q := range five()[2:] {
		var from [256][]int
		for i, b := range q.make() {
			from[b] = append(from[b], i)
		}
		for b, l := range from {
			if len(l) != 1 {
				t.Errorf("%s: %02X is what % X become", q.name, b, l)
			}
		}
	}
}

func TestThenOfNone(t *testing.T) { // P5.2, R4
	for _, l := range [][][256]byte{nil, {}, make([][256]byte, 0, 2)} {
		if x := tab.Then(l...); x != same() {
			t.Errorf("% X", x)
		}
	}
	if x := tab.Then(); x != same() {
		t.Errorf("% X", x)
	}
}

func TestThenOfOne(t *testing.T) { // P5.2
	for _, q := range five() {
		if x := tab.Then(q.make()); x != q.make() {
			t.Errorf("%s: % X", q.name, x)
		}
	}
	if x := tab.Then([256]byte{}); x != [256]byte{} {
		t.Errorf("% X", x)
	}
	if x := tab.Then(same()); x != same() {
		t.Errorf("% X", x)
	}
}

func TestThenOfSeveral(t *testing.T) { // P5.2
	const long = 4
	all := 1
	for range long {
		all *= len(five())
	}
	for n := range all {
		var l [][256]byte
		var names []string
		for k := n; len(l) < long; k /= len(five()) {
			q := five()[k%len(five())]
			l, names = append(l, q.make()), append(names, q.name)
			x := tab.Then(l...)
			for i := range 256 {
				b := byte(i)
				for _, y := range l {
					b = y[b]
				}
				if x[i] != b {
					t.Fatalf("%v: %02X becomes %02X; want %02X", names, i, x[i], b)
				}
			}
		}
	}
}

func TestThenKeepsTheOrder(t *testing.T) { // P5.2
	var add, twice [256]byte
	for i := range 256 {
		add[i] = byte(i) + 1
		twice[i] = byte(i) * 2
	}
	first, second := tab.Then(add, twice), tab.Then(twice, add)
	many := tab.Then(add, add, twice, add, twice)
	for i := range 256 {
		b := byte(i)
		if first[i] != (b+1)*2 || second[i] != b*2+1 || many[i] != ((b+2)*2+1)*2 {
			t.Errorf("%02X becomes %02X, %02X, %02X", i, first[i], second[i], many[i])
		}
	}
	x := tab.Then(tab.Upper(), tab.Ebcdic())
	if x['a'] != 0xC1 || x['A'] != 0xC1 || x[' '] != 0x40 {
		t.Errorf("% X", x)
	}
	if tab.Then(tab.Lower(), tab.Upper()) != tab.Upper() || tab.Then(tab.Upper(), tab.Lower()) != tab.Lower() {
		t.Error("the last of Lower and Upper does not hold")
	}
	if tab.Then(tab.Ebcdic(), tab.Ascii()) != same() || tab.Then(tab.Ascii(), tab.Ebcdic()) != same() {
		t.Error("Ebcdic and Ascii are not each other's way back")
	}
}

func TestThenOfMany(t *testing.T) { // P5.2
	var add [256]byte
	for i := range add {
		add[i] = byte(i) + 1
	}
	l := make([][256]byte, 1000)
	for i := range l {
		l[i] = add
	}
	for n := range l {
		if n > 20 && n < 250 || n > 260 && n < 990 {
			continue
		}
		if x := tab.Then(l[:n]...); x[0] != byte(n) || x[255] != byte(n+255) {
			t.Errorf("%d: %d, %d", n, x[0], x[255])
		}
	}
}

func TestMapOfNothing(t *testing.T) { // P5.2, R4
	for _, q := range five() {
		for _, b := range [][]byte{nil, {}, every()[:0]} {
			if got := tab.Map(q.make(), b); len(got) != 0 {
				t.Errorf("%s: % X", q.name, got)
			}
		}
	}
}

func TestMapOfOneByte(t *testing.T) { // P5.2
	for _, q := range five() {
		x := q.make()
		for i := range 256 {
			if got := tab.Map(x, []byte{byte(i)}); len(got) != 1 || got[0] != x[i] {
				t.Errorf("%s: %02X becomes % X; want %02X", q.name, i, got, x[i])
			}
		}
	}
}

func TestMapOfEveryByte(t *testing.T) { // P5.2
	for _, q := range five() {
		x := q.make()
		if got := tab.Map(x, every()); !bytes.Equal(got, x[:]) {
			t.Errorf("%s: % X", q.name, got)
		}
	}
	if got := tab.Map([256]byte{}, every()); !bytes.Equal(got, make([]byte, 256)) {
		t.Errorf("% X", got)
	}
	if got := tab.Map(tab.Then(), every()); !bytes.Equal(got, every()) {
		t.Errorf("% X", got)
	}
}

func TestMapOfMany(t *testing.T) { // P5.2
	for _, n := range []int{2, 255, 256, 257, 4095, 4096, 4097, 70001} {
		b := make([]byte, n)
		for i := range b {
			b[i] = byte(i*7) ^ byte(i>>8)
		}
		for _, q := range five() {
			x := q.make()
			got := tab.Map(x, b)
			if len(got) != n {
				t.Fatalf("%s: %d bytes; want %d", q.name, len(got), n)
			}
			for i := range b {
				if got[i] != x[b[i]] {
					t.Fatalf("%s: %02X becomes %02X at %d; want %02X", q.name, b[i], got[i], i, x[b[i]])
				}
			}
		}
	}
}

func TestMapOfTexts(t *testing.T) { // P5.2
	for _, q := range []struct {
		table       [256]byte
		text, wants string
	}{
		{tab.Lower(), "Hello, WORLD @[`{ 1", "hello, world @[`{ 1"},
		{tab.Upper(), "Hello, world @[`{ 1", "HELLO, WORLD @[`{ 1"},
		{tab.Upper(), "\xC3\xA4\x00\xFFz", "\xC3\xA4\x00\xFFZ"},
		{tab.Ebcdic(), "Az^~\n", "\xC1\xA9\x9A\x5F\x25"},
		{tab.Ibm(), "Az^~\n", "\xC1\xA9\x5F\xA1\x25"},
		{tab.Ascii(), "\xC1\xA9\x9A\x5F\x25", "Az^~\n"},
	} {
		if got := tab.Map(q.table, []byte(q.text)); string(got) != q.wants {
			t.Errorf("%q becomes %q; want %q", q.text, got, q.wants)
		}
	}
}

func TestMapLeavesItsBytes(t *testing.T) { // R2, R5
	whole := []byte("some bytes, and room behind them")
	was := slices.Clone(whole)
	for n := range len(whole) + 1 {
		for _, q := range five() {
			got := tab.Map(q.make(), whole[:n])
			if len(got) != n || !bytes.Equal(whole, was) {
				t.Fatalf("%s of %d: %d bytes; %q", q.name, n, len(got), whole)
			}
		}
	}
}

// spoil changes all of b, its spare room too.
func spoil(b []byte) {
	b = b[:cap(b)]
	for i := range b {
		b[i] ^= 255
	}
}

func TestMapSharesNothing(t *testing.T) { // R2
	for _, q := range append(five(), namedTable{"same", same}) {
		x := q.make()
		whole := every()
		b := whole[:200]
		first, second := tab.Map(x, b), tab.Map(x, b)
		spoil(first)
		if !bytes.Equal(whole, every()) || x != q.make() || !bytes.Equal(second, x[:200]) {
			t.Error(q.name, "shares what it answered")
		}
		spoil(whole)
		if !bytes.Equal(second, x[:200]) {
			t.Error(q.name, "shares what it was given")
		}
		empty := tab.Map(x, whole[:0])
		was := slices.Clone(whole)
		spoil(empty)
		if !bytes.Equal(whole, was) {
			t.Error(q.name, "shares the spare room")
		}
	}
}

func TestThenLeavesItsTables(t *testing.T) { // R2, R5
	room := [][256]byte{tab.Upper(), tab.Ebcdic(), tab.Lower(), {}}
	was := slices.Clone(room)
	wants := [][256]byte{same(), was[0], was[0], was[0], {}}
	for i := range 256 {
		wants[2][i] = was[1][was[0][i]]
		wants[3][i] = was[2][wants[2][i]]
	}
	for n, want := range wants {
		first := tab.Then(room[:n]...)
		if first != want || !slices.Equal(room, was) {
			t.Error(n, "tables: another answer, or one of them is changed")
		}
		spoil(first[:])
		if !slices.Equal(room, was) {
			t.Error(n, "tables: the answer shares them")
		}
		second := tab.Then(room[:n]...)
		clear(room)
		if second != want {
			t.Error(n, "tables: they are kept")
		}
		copy(room, was)
	}
}

func TestTablesAreNew(t *testing.T) { // R2
	for _, q := range five() {
		was := q.make()
		x := q.make()
		spoil(x[:])
		if y := q.make(); y != was || y == x {
			t.Errorf("%s: what came out changes what comes next", q.name)
		}
	}
	x := tab.Then()
	spoil(x[:])
	if tab.Then() != same() {
		t.Error("Then: what came out changes what comes next")
	}
}
