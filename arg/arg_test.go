package arg_test

import (
	"regexp"
	"slices"
	"strconv"
	"strings"
	"testing"

	"salvor/api"
	"salvor/arg"
	"salvor/spare"
)

func o(key, val string) api.Opt { return api.Opt{Key: key, Val: val} }

// many is one argument, n times.
func many(s string, n int) []string { return slices.Repeat([]string{s}, n) }

// keys is n keys that all differ.
func keys(n int) []string {
	var l []string
	for i := range n {
		l = append(l, "k"+string(rune('a'+i/26))+string(rune('a'+i%26)))
	}
	return l
}

// lists goes through all lists of at most most of the texts.
func lists(texts []string, most int, see func([]string)) {
	var l []string
	var on func()
	on = func() {
		see(l)
		if len(l) == most {
			return
		}
		for _, s := range texts {
			l = append(l, s)
			on()
			l = l[:len(l)-1]
		}
	}
	on()
}

// texts goes through all texts of at most most of the bytes.
func texts(of string, most int, see func(string)) {
	lists(strings.Split(of, ""), most, func(l []string) { see(strings.Join(l, "")) })
}

var operandForm = regexp.MustCompile(`\A(?s:([a-z]{1,10})=(.*))\z`)

// wantOperands is Operands, by a pattern, on texts in UTF-8.
func wantOperands(l []string) ([]api.Opt, bool) {
	var out []api.Opt
	seen := map[string]int{}
	for _, s := range l {
		m := operandForm.FindStringSubmatch(s)
		if m == nil {
			return nil, false
		}
		seen[m[1]]++
		out = append(out, o(m[1], m[2]))
	}
	for key, n := range seen {
		if n > 1 && key != "conv" && key != "iflag" {
			return nil, false
		}
	}
	return out, len(l) <= 40
}

func checkOperands(t *testing.T, l []string, want []api.Opt, wantOK bool) {
	t.Helper()
	got, ok := arg.Operands(l...)
	if ok != wantOK || !slices.Equal(got, want) {
		t.Errorf("Operands(%q) is %q, %v; want %q, %v", l, got, ok, want, wantOK)
	}
}

// P9.1
func TestOperands(t *testing.T) {
	for _, q := range []struct {
		in   []string
		want []api.Opt
	}{
		{nil, nil},
		{[]string{}, nil},
		{[]string{"if=a"}, []api.Opt{o("if", "a")}},
		{[]string{"of=b", "if=a", "bs=8"}, []api.Opt{o("of", "b"), o("if", "a"), o("bs", "8")}},
		{[]string{"a="}, []api.Opt{o("a", "")}},
		{[]string{"a=="}, []api.Opt{o("a", "=")}},
		{[]string{"a=b=c"}, []api.Opt{o("a", "b=c")}},
		{[]string{"a==b"}, []api.Opt{o("a", "=b")}},
		{[]string{"a=-", "b=--", "c= \n\x00\xFF"}, []api.Opt{o("a", "-"), o("b", "--"), o("c", " \n\x00\xFF")}},
		{[]string{"abcdefghij=1"}, []api.Opt{o("abcdefghij", "1")}},
		{[]string{"klmnopqrst=1", "uvwxyz=2"}, []api.Opt{o("klmnopqrst", "1"), o("uvwxyz", "2")}},
		{[]string{"a=1", "aa=1", "aaa=1"}, []api.Opt{o("a", "1"), o("aa", "1"), o("aaa", "1")}},
		{[]string{"conv=a", "conv=a"}, []api.Opt{o("conv", "a"), o("conv", "a")}},
		{[]string{"conv=a", "if=x", "iflag=b", "conv=c", "iflag=", "conv="}, []api.Opt{o("conv", "a"), o("if", "x"), o("iflag", "b"), o("conv", "c"), o("iflag", ""), o("conv", "")}},
		{[]string{"a=conv", "b=conv"}, []api.Opt{o("a", "conv"), o("b", "conv")}},
	} {
		checkOperands(t, q.in, q.want, true)
	}
}

// P9.1, R3
func TestOperandsThatAreNone(t *testing.T) {
	for _, l := range [][]string{
		{""}, {"a"}, {"="}, {"=a"}, {"==a"}, {"abcdefghijk=1"}, {"abcdefghijkl=1"}, {"aaaaaaaaaaa"},
		{"A=1"}, {"Z=1"}, {"aB=1"}, {"a1=1"}, {"1=1"}, {"a-b=1"}, {"-a=1"}, {"--a=1"}, {" a=1"}, {"a =1"}, {"\xE9=1"}, {"é=1"}, {"a\x00=1"}, {"a:=1"},
		{"a=1", "a=1"}, {"a=1", "a=2"}, {"a=1", "b=1", "a=1"}, {"a=1", "b=1", "c=1", "b="},
		{"oflag=a", "oflag=a"}, {"convs=a", "convs=a"}, {"con=a", "con=a"}, {"flag=a", "flag=a"}, {"iflags=a", "iflags=a"},
		{"a=1", ""}, {"a=1", "b"}, {"", "a=1"}, {"a=1", "b", "c=1"}, {"conv=a", "conv=a", "conv"}, {"conv=a", "b=1", "conv=a", "b=1"},
	} {
		checkOperands(t, l, nil, false)
	}
}

// P9.1: a key's bytes, each of them at its beginning, in its midst, at its end.
func TestOperandsOfAnyByte(t *testing.T) {
	for b := range 256 {
		c := string([]byte{byte(b)})
		small := b >= 'a' && b <= 'z'
		for _, q := range []struct{ ahead, behind string }{{"", ""}, {"", "xy"}, {"x", "y"}, {"xy", ""}, {"", "abcdefghi"}, {"abcdefghi", ""}} {
			key := q.ahead + c + q.behind
			switch {
			case small:
				checkOperands(t, []string{key + "=v"}, []api.Opt{o(key, "v")}, true)
			case b == '=' && q.ahead != "":
				checkOperands(t, []string{key + "=v"}, []api.Opt{o(q.ahead, q.behind+"=v")}, true)
			default:
				checkOperands(t, []string{key + "=v"}, nil, false)
			}
			checkOperands(t, []string{"v=" + key}, []api.Opt{o("v", key)}, true)
		}
	}
}

// P9.1: MaxArgs, and one past it.
func TestOperandsMany(t *testing.T) {
	for _, n := range []int{1, api.MaxArgs - 1, api.MaxArgs, api.MaxArgs + 1, api.MaxArgs + 2, 1000} {
		for _, s := range []string{"conv=x", "iflag="} {
			want, ok := wantOperands(many(s, n))
			if !ok {
				want = nil
			}
			checkOperands(t, many(s, n), want, n <= 40)
		}
	}
	var l []string
	var want []api.Opt
	for i, key := range keys(api.MaxArgs + 1) {
		if i == api.MaxArgs {
			checkOperands(t, append(slices.Clone(l[1:]), l[0]), append(slices.Clone(want[1:]), want[0]), true)
			checkOperands(t, append(slices.Clone(l), key+"=1"), nil, false)
			break
		}
		l = append(l, key+"=1")
		want = append(want, o(key, "1"))
		checkOperands(t, l, want, true)
		// The last of them a second time, and the first.
		checkOperands(t, append(slices.Clone(l), key+"="), nil, false)
		checkOperands(t, append(slices.Clone(l), l[0]), nil, false)
	}
}

// P9.1: all short texts, and all short lists.
func TestOperandsAllShort(t *testing.T) {
	check := func(l []string) {
		want, ok := wantOperands(l)
		if !ok {
			want = nil
		}
		checkOperands(t, l, want, ok)
	}
	texts("az`{A=1-", 4, func(s string) { check([]string{s}) })
	lists([]string{"a=1", "a=", "b=1", "conv=a", "conv=", "iflag=a", "a", "=", ""}, 4, check)
}

var (
	specForm = regexp.MustCompile(`\A(?:[a-zA-Z]:?)*\z`)
	longForm = regexp.MustCompile(`\A(?s:--([a-z]{1,10})(?:=(.*))?)\z`)
)

// wantFlags is Flags, one byte or argument a turn, from a table of letters, on texts in UTF-8.
func wantFlags(spec string, l []string) (api.Parsed, bool) {
	valued := map[byte]bool{}
	for i := range len(spec) {
		if spec[i] == ':' {
			continue
		}
		if _, twice := valued[spec[i]]; twice {
			return api.Parsed{}, false
		}
		valued[spec[i]] = strings.HasPrefix(spec[i+1:], ":")
	}
	if !specForm.MatchString(spec) || len(l) > 40 {
		return api.Parsed{}, false
	}
	return wantParsed(valued, l)
}

// wantParsed is the first argument's part, ahead of that of all others.
func wantParsed(valued map[byte]bool, l []string) (api.Parsed, bool) {
	if len(l) == 0 {
		return api.Parsed{}, true
	}
	var opts []api.Opt
	var rest []string
	s, behind := l[0], l[1:]
	switch {
	case s == "--":
		return api.Parsed{Rest: behind}, true
	case strings.HasPrefix(s, "--"):
		m := longForm.FindStringSubmatch(s)
		if m == nil {
			return api.Parsed{}, false
		}
		opts = []api.Opt{o(m[1], m[2])}
	case s != "-" && strings.HasPrefix(s, "-"):
		for s = s[1:]; s != ""; {
			c := s[0]
			s = s[1:]
			v, known := valued[c]
			if !known {
				return api.Parsed{}, false
			}
			val := ""
			if v && s == "" {
				if len(behind) == 0 {
					return api.Parsed{}, false
				}
				val, behind = behind[0], behind[1:]
			} else if v {
				val, s = s, ""
			}
			opts = append(opts, o(string(rune(c)), val))
		}
	default:
		rest = []string{s}
	}
	p, ok := wantParsed(valued, behind)
	if !ok {
		return api.Parsed{}, false
	}
	return api.Parsed{Opts: slices.Concat(opts, p.Opts), Rest: slices.Concat(rest, p.Rest)}, true
}

func checkFlags(t *testing.T, spec string, l []string, want api.Parsed, wantOK bool) {
	t.Helper()
	got, ok := arg.Flags(spec, l...)
	if ok != wantOK || !slices.Equal(got.Opts, want.Opts) || !slices.Equal(got.Rest, want.Rest) {
		t.Errorf("Flags(%q, %q) is %q, %v; want %q, %v", spec, l, got, ok, want, wantOK)
	}
}

// P9.2: the chapter's run, and ordinary ones.
func TestFlags(t *testing.T) {
	for _, q := range []struct {
		spec string
		in   []string
		opts []api.Opt
		rest []string
	}{
		{"rn:", []string{"-rn", "3", "x"}, []api.Opt{o("r", ""), o("n", "3")}, []string{"x"}},
		{"", nil, nil, nil},
		{"", []string{}, nil, nil},
		{"rn:", nil, nil, nil},
		{"", []string{"a", "", "b"}, nil, []string{"a", "", "b"}},
		{"", []string{"-"}, nil, []string{"-"}},
		{"r", []string{"-", "-r", "-"}, []api.Opt{o("r", "")}, []string{"-", "-"}},
		{"r", []string{""}, nil, []string{""}},
		{"r", []string{"-r"}, []api.Opt{o("r", "")}, nil},
		{"rsT", []string{"-Trs"}, []api.Opt{o("T", ""), o("r", ""), o("s", "")}, nil},
		{"r", []string{"-rr", "-r"}, []api.Opt{o("r", ""), o("r", ""), o("r", "")}, nil},
		{"azAZ", []string{"-azAZ"}, []api.Opt{o("a", ""), o("z", ""), o("A", ""), o("Z", "")}, nil},
		{"aA:", []string{"-aAa"}, []api.Opt{o("a", ""), o("A", "a")}, nil},
		{"a:A", []string{"-AaA"}, []api.Opt{o("A", ""), o("a", "A")}, nil},
		{"a:b:", []string{"-ab", "-ba"}, []api.Opt{o("a", "b"), o("b", "a")}, nil},
		// A value behind its letter, whatever that is.
		{"rn:", []string{"-n5r"}, []api.Opt{o("n", "5r")}, nil},
		{"rn:", []string{"-rnr"}, []api.Opt{o("r", ""), o("n", "r")}, nil},
		{"rn:", []string{"-n=5"}, []api.Opt{o("n", "=5")}, nil},
		{"rn:", []string{"-n-"}, []api.Opt{o("n", "-")}, nil},
		{"rn:", []string{"-n--", "-r"}, []api.Opt{o("n", "--"), o("r", "")}, nil},
		{"rn:", []string{"-nx", "y"}, []api.Opt{o("n", "x")}, []string{"y"}},
		{"rn:", []string{"-n\xFF\x00:"}, []api.Opt{o("n", "\xFF\x00:")}, nil},
		// A value in the next argument, whatever that is.
		{"rn:", []string{"-n", "--"}, []api.Opt{o("n", "--")}, nil},
		{"rn:", []string{"-n", "--", "-r"}, []api.Opt{o("n", "--"), o("r", "")}, nil},
		{"rn:", []string{"-n", "--", "--", "-r"}, []api.Opt{o("n", "--")}, []string{"-r"}},
		{"rn:", []string{"-n", "-"}, []api.Opt{o("n", "-")}, nil},
		{"rn:", []string{"-n", ""}, []api.Opt{o("n", "")}, nil},
		{"rn:", []string{"-n", "", ""}, []api.Opt{o("n", "")}, []string{""}},
		{"rn:", []string{"-n", "-r"}, []api.Opt{o("n", "-r")}, nil},
		{"rn:", []string{"-n", "-n", "-n", "3"}, []api.Opt{o("n", "-n"), o("n", "3")}, nil},
		{"rn:", []string{"-n", "-x", "a"}, []api.Opt{o("n", "-x")}, []string{"a"}},
		{"rn:", []string{"-n", "--long=1", "a"}, []api.Opt{o("n", "--long=1")}, []string{"a"}},
		{"rn:", []string{"-n", "--A"}, []api.Opt{o("n", "--A")}, nil},
		{"rn:", []string{"-rn", "-rn", "-r"}, []api.Opt{o("r", ""), o("n", "-rn"), o("r", "")}, nil},
		// -- alone.
		{"rn:", []string{"--"}, nil, nil},
		{"rn:", []string{"--", "--"}, nil, []string{"--"}},
		{"rn:", []string{"--", "-r", "-x", "--A", "-", "", "-n"}, nil, []string{"-r", "-x", "--A", "-", "", "-n"}},
		{"rn:", []string{"a", "-r", "--", "-r", "--", "b"}, []api.Opt{o("r", "")}, []string{"a", "-r", "--", "b"}},
		{"rn:", []string{"-r", "a", "--"}, []api.Opt{o("r", "")}, []string{"a"}},
		// -- and letters: spec says nothing of these.
		{"rn:", []string{"--r", "--n"}, []api.Opt{o("r", ""), o("n", "")}, nil},
		{"rn:", []string{"--n", "3"}, []api.Opt{o("n", "")}, []string{"3"}},
		{"rn:", []string{"--n=3", "--r=3"}, []api.Opt{o("n", "3"), o("r", "3")}, nil},
		{"", []string{"--a", "--z", "--a"}, []api.Opt{o("a", ""), o("z", ""), o("a", "")}, nil},
		{"", []string{"--abcdefghij"}, []api.Opt{o("abcdefghij", "")}, nil},
		{"", []string{"--abcdefghij=abcdefghijk"}, []api.Opt{o("abcdefghij", "abcdefghijk")}, nil},
		{"", []string{"--a=", "--b==", "--c=d=e", "--f=-", "--g=--"}, []api.Opt{o("a", ""), o("b", "="), o("c", "d=e"), o("f", "-"), o("g", "--")}, nil},
		{"", []string{"--a=\xFF\n\x00"}, []api.Opt{o("a", "\xFF\n\x00")}, nil},
		// All of them mixed: each list keeps its order.
		{"rn:S", []string{"a", "-Sr", "-", "--long", "b", "-n", "c", "", "--key=v", "-n4", "d", "--", "-r", "--", "e"},
			[]api.Opt{o("S", ""), o("r", ""), o("long", ""), o("n", "c"), o("key", "v"), o("n", "4")}, []string{"a", "-", "b", "", "d", "-r", "--", "e"}},
		{"r", []string{"a=b", "=", "a-r", " -r", "a--"}, nil, []string{"a=b", "=", "a-r", " -r", "a--"}},
	} {
		checkFlags(t, q.spec, q.in, api.Parsed{Opts: q.opts, Rest: q.rest}, true)
	}
}

// P9.2, R3: nothing of what was taken apart ahead of the fault is told.
func TestFlagsThatAreNone(t *testing.T) {
	for _, fault := range [][]string{
		{"-x"}, {"-rx"}, {"-xr"}, {"-rxn"}, {"-R"}, {"-N"}, {"-r:"}, {"-:"}, {"-r-"}, {"-r=1"}, {"-1"}, {"-="}, {"- "}, {"-\x00"}, {"-\xFF"}, {"-é"}, {"-r3"},
		{"-n"}, {"-rn"}, {"-rrn"}, {"-r", "-n"}, {"-n", "1", "-n"}, {"-n", "-n", "-n"}, {"a", "-n"},
		{"--="}, {"--=a"}, {"--A"}, {"--Z"}, {"--aB"}, {"--a1"}, {"--1"}, {"--a-b"}, {"--a-b=c"}, {"---"}, {"---a"}, {"---r"}, {"----"}, {"--a:"}, {"--a b"}, {"-- "}, {"--\xE1"}, {"--é=1"}, {"--a\x00"},
		{"--abcdefghijk"}, {"--abcdefghijk=1"}, {"--abcdefghijkl"},
	} {
		for _, ahead := range [][]string{nil, {"a"}, {"-r"}, {"-n", "1", "b", "--long=2"}} {
			checkFlags(t, "rn:", slices.Concat(ahead, fault), api.Parsed{}, false)
		}
		// Behind -- it is no fault.
		checkFlags(t, "rn:", slices.Concat([]string{"--"}, fault), api.Parsed{Rest: fault}, true)
	}
	for _, fault := range []string{"-x", "-rx", "-r-", "--A", "---", "--=a"} {
		checkFlags(t, "rn:", []string{fault, "a"}, api.Parsed{}, false)
		checkFlags(t, "rn:", []string{fault, "--"}, api.Parsed{}, false)
		checkFlags(t, "rn:", []string{"-n", fault}, api.Parsed{Opts: []api.Opt{o("n", fault)}}, true)
	}
	checkFlags(t, "", []string{"-a"}, api.Parsed{}, false)
	checkFlags(t, "", []string{"-:"}, api.Parsed{}, false)
	checkFlags(t, "n:", []string{"-:"}, api.Parsed{}, false)
}

// P9.2: what spec may be.
func TestSpecs(t *testing.T) {
	var all, valued strings.Builder
	for b := byte('A'); b <= 'z'; b++ {
		if b > 'Z' && b < 'a' {
			continue
		}
		all.WriteByte(b)
		valued.WriteString(string(rune(b)) + ":")
	}
	var opts []api.Opt
	for _, c := range strings.Split(all.String(), "") {
		opts = append(opts, o(c, ""))
		checkFlags(t, valued.String(), []string{"-" + c + "v"}, api.Parsed{Opts: []api.Opt{o(c, "v")}}, true)
		for _, spec := range []string{all.String(), valued.String()} {
			checkFlags(t, spec+c, nil, api.Parsed{}, false)
			checkFlags(t, c+spec, nil, api.Parsed{}, false)
			checkFlags(t, spec+c+":", []string{"a"}, api.Parsed{}, false)
		}
	}
	checkFlags(t, all.String(), []string{"-" + all.String()}, api.Parsed{Opts: opts}, true)
	for _, spec := range []string{":", ":r", "::", "r::", "n::r", "rn:::", "rr", "r:r", "rr:", "r:r:", "rnr", "RR", "r1", "1", "r ", " r", "r-", "-", "r=", "é", "r\x00", "\xFF"} {
		for _, l := range [][]string{nil, {"a"}, {"-r"}, {"--"}, {"--a"}} {
			checkFlags(t, spec, l, api.Parsed{}, false)
		}
	}
	for b := range 256 {
		c := string([]byte{byte(b)})
		letter := strings.Contains(all.String(), c)
		if checkFlags(t, c, []string{"a"}, rest(letter, "a"), letter); letter {
			checkFlags(t, c, []string{"-" + c}, api.Parsed{Opts: []api.Opt{o(c, "")}}, true)
		} else {
			checkFlags(t, "r", []string{"-" + c}, api.Parsed{}, c == "-")
		}
		checkFlags(t, "0"+c, []string{"a"}, api.Parsed{}, false)
		fits := letter && c != "r" || c == ":"
		checkFlags(t, "r"+c, []string{"a"}, rest(fits, "a"), fits)
	}
}

// rest is these as Rest, if it is so.
func rest(so bool, l ...string) api.Parsed {
	if !so {
		return api.Parsed{}
	}
	return api.Parsed{Rest: l}
}

// P9.2: the bytes of a key behind --, each of them at its beginning, in its midst, at its end.
func TestFlagsOfAnyByte(t *testing.T) {
	for b := range 256 {
		c := string([]byte{byte(b)})
		for _, q := range []struct{ ahead, behind string }{{"", "xy"}, {"x", "y"}, {"xy", ""}, {"", "abcdefghi"}, {"abcdefghi", ""}} {
			key := q.ahead + c + q.behind
			switch {
			case b >= 'a' && b <= 'z':
				checkFlags(t, "", []string{"--" + key}, api.Parsed{Opts: []api.Opt{o(key, "")}}, true)
				checkFlags(t, "", []string{"--" + key + "=" + key}, api.Parsed{Opts: []api.Opt{o(key, key)}}, true)
			case b == '=' && q.ahead != "":
				checkFlags(t, "", []string{"--" + key}, api.Parsed{Opts: []api.Opt{o(q.ahead, q.behind)}}, true)
			default:
				checkFlags(t, "", []string{"--" + key}, api.Parsed{}, false)
				checkFlags(t, "", []string{"--" + key + "=v"}, api.Parsed{}, false)
			}
		}
		checkFlags(t, "n:", []string{"-n" + c}, api.Parsed{Opts: []api.Opt{o("n", c)}}, true)
		checkFlags(t, "n:", []string{"-n", c}, api.Parsed{Opts: []api.Opt{o("n", c)}}, true)
		checkFlags(t, "n:", []string{c, "--v=" + c}, api.Parsed{Opts: []api.Opt{o("v", c)}, Rest: []string{c}}, true)
	}
}

// P9.2: MaxArgs, and one past it: arguments count, not options.
func TestFlagsMany(t *testing.T) {
	for _, n := range []int{1, api.MaxArgs - 1, api.MaxArgs, api.MaxArgs + 1, api.MaxArgs + 2, 1000} {
		for _, s := range []string{"a", "-r", "-rr", "--long", "--", "-", ""} {
			want, ok := wantFlags("rn:", many(s, n))
			checkFlags(t, "rn:", many(s, n), want, ok)
			if ok != (n <= 40) {
				t.Errorf("%d of %q: %v", n, s, ok)
			}
		}
		values := append(many("-n", n-n%2), many("x", n%2)...)
		want, ok := wantFlags("rn:", values)
		checkFlags(t, "rn:", values, want, ok)
		if ok != (n <= 40) {
			t.Errorf("%d values: %v", n, ok)
		}
	}
	long := strings.Repeat("r", 1000)
	checkFlags(t, "r", []string{"-" + long}, api.Parsed{Opts: slices.Repeat([]api.Opt{o("r", "")}, 1000)}, true)
	checkFlags(t, "n:", []string{"-n" + long, "-n", long, long}, api.Parsed{Opts: []api.Opt{o("n", long), o("n", long)}, Rest: []string{long}}, true)
	checkFlags(t, long, []string{"a"}, api.Parsed{}, false)
}

// P9.2: all short specs, all short texts, and all short lists.
func TestFlagsAllShort(t *testing.T) {
	check := func(spec string, l ...string) {
		want, ok := wantFlags(spec, l)
		checkFlags(t, spec, l, want, ok)
	}
	texts("rnR:-", 4, func(spec string) {
		check(spec)
		check(spec, "-rn", "n")
		check(spec, "-Rr", "a", "-n:", "b")
	})
	texts("-rnx=:A", 5, func(s string) {
		check("rn:", s)
		check("rn:", s, "-r")
	})
	for _, spec := range []string{"rn:", "r:n:", "rn"} {
		lists([]string{"-r", "-n", "-rn", "-nr", "--", "-", "", "a", "--r", "--r=1", "-x"}, 4, func(l []string) { check(spec, l...) })
	}
}

// P9.3
func TestFind(t *testing.T) {
	l := []api.Opt{o("a", "1"), o("b", "2"), o("a", "3"), o("c", ""), o("d", "4"), o("d", ""), o("e", ""), o("e", "5"), o("", "6"), o("A", "7"), o("ab", "8"), o("b1\xFF", "9")}
	for _, q := range []struct {
		key, val string
		ok       bool
	}{
		{"a", "3", true}, {"b", "2", true}, {"c", "", true}, {"d", "", true}, {"e", "5", true}, {"", "6", true}, {"A", "7", true}, {"ab", "8", true}, {"b1\xFF", "9", true},
		{"f", "", false}, {"1", "", false}, {"B", "", false}, {"abc", "", false}, {"a ", "", false}, {"b1", "", false},
	} {
		if val, ok := arg.Find(l, q.key); val != q.val || ok != q.ok {
			t.Errorf("Find(%q) is %q, %v; want %q, %v", q.key, val, ok, q.val, q.ok)
		}
	}
	for _, none := range [][]api.Opt{nil, {}, l[:0]} {
		for _, key := range []string{"", "a"} {
			if val, ok := arg.Find(none, key); val != "" || ok {
				t.Errorf("Find(%q) of none is %q, %v", key, val, ok)
			}
		}
	}
	// It asks for no limit.
	long := slices.Repeat([]api.Opt{o("a", "1")}, 10*api.MaxArgs)
	long[0].Key = "first"
	if val, ok := arg.Find(long, "first"); val != "1" || !ok {
		t.Errorf("the first of many is %q, %v", val, ok)
	}
}

// P9.3: of all short lists the last one of that key.
func TestFindAllShort(t *testing.T) {
	lists([]string{"a", "b", "c"}, 5, func(l []string) {
		var opts []api.Opt
		last := map[string]string{}
		for i, key := range l {
			opts = append(opts, o(key, strconv.Itoa(i)))
			last[key] = strconv.Itoa(i)
		}
		for _, key := range []string{"a", "b", "c", "d"} {
			want, wantOK := last[key]
			if val, ok := arg.Find(opts, key); val != want || ok != wantOK {
				t.Errorf("Find(%q, %q) is %q, %v", opts, key, val, ok)
			}
		}
	})
}

// P9.3
func TestOnly(t *testing.T) {
	l := []api.Opt{o("a", "x"), o("b", "y"), o("a", "z")}
	for _, q := range []struct {
		l    []api.Opt
		keys []string
		want bool
	}{
		{nil, nil, true}, {[]api.Opt{}, []string{}, true}, {nil, []string{"a"}, true},
		{l, nil, false}, {l, []string{}, false}, {l, []string{"a"}, false}, {l, []string{"b"}, false}, {l, []string{"c"}, false}, {l, []string{"x", "y", "z"}, false}, {l, []string{"A", "B"}, false}, {l, []string{"ab"}, false}, {l, []string{""}, false},
		{l, []string{"a", "b"}, true}, {l, []string{"b", "a"}, true}, {l, []string{"a", "b", "c"}, true}, {l, []string{"c", "b", "d", "a"}, true}, {l, []string{"b", "a", "b", "a"}, true},
		{l[:1], []string{"a"}, true}, {l[1:2], []string{"a"}, false}, {l[:2], []string{"a"}, false}, {l[1:], []string{"b"}, false},
		{[]api.Opt{o("", "")}, nil, false}, {[]api.Opt{o("", "")}, []string{""}, true}, {[]api.Opt{o("\xFF", "")}, []string{"\xFE"}, false},
	} {
		if got := arg.Only(q.l, q.keys...); got != q.want {
			t.Errorf("Only(%q, %q) is %v", q.l, q.keys, got)
		}
	}
	lists([]string{"a", "b", "c"}, 4, func(l []string) {
		var opts []api.Opt
		for _, key := range l {
			opts = append(opts, o(key, "d"))
		}
		for _, keys := range [][]string{nil, {"a"}, {"a", "c"}, {"c", "b", "a"}, {"d"}} {
			want := !slices.ContainsFunc(l, func(key string) bool { return !slices.Contains(keys, key) })
			if got := arg.Only(opts, keys...); got != want {
				t.Errorf("Only(%q, %q) is %v", opts, keys, got)
			}
		}
	})
	long := slices.Repeat(l, 10*api.MaxArgs)
	if !arg.Only(long, append(many("c", 10*api.MaxArgs), "b", "a")...) || arg.Only(append(long, o("e", "")), "a", "b") {
		t.Error("Only of many")
	}
}

// P9.3
func TestWords(t *testing.T) {
	for _, q := range []struct {
		s    string
		sep  byte
		want []string
	}{
		{"", ',', []string{""}}, {"", 0, []string{""}}, {"abc", ',', []string{"abc"}},
		{",", ',', []string{"", ""}}, {",,", ',', []string{"", "", ""}},
		{"a,b", ',', []string{"a", "b"}}, {"ab,cd,ef", ',', []string{"ab", "cd", "ef"}},
		{",a", ',', []string{"", "a"}}, {"a,", ',', []string{"a", ""}}, {"a,,b", ',', []string{"a", "", "b"}}, {",a,,b,", ',', []string{"", "a", "", "b", ""}},
		{" a b ", ' ', []string{"", "a", "b", ""}}, {"a\x00b", 0, []string{"a", "b"}}, {"a\xFFb\xFF", 0xFF, []string{"a", "b", ""}}, {"aaa", 'a', []string{"", "", "", ""}},
		// A byte, not a letter: é is C3 A9.
		{"é", 0xE9, []string{"é"}}, {"é", 0xA9, []string{"\xC3", ""}}, {"é", 0xC3, []string{"", "\xA9"}},
	} {
		if got := arg.Words(q.s, q.sep); !slices.Equal(got, q.want) {
			t.Errorf("Words(%q, %q) is %q; want %q", q.s, q.sep, got, q.want)
		}
	}
	for b := range 256 {
		sep, other := string([]byte{byte(b)}), string([]byte{byte(b + 1)})
		if got := arg.Words(sep+other+sep+sep+other, byte(b)); !slices.Equal(got, []string{"", other, "", other}) {
			t.Errorf("Words by %02X is %q", b, got)
		}
	}
	// More than a command has arguments.
	if got := arg.Words(strings.Repeat(",", 10000), ','); len(got) != 10001 || slices.ContainsFunc(got, func(s string) bool { return s != "" }) {
		t.Errorf("10000 commas make %d words", len(got))
	}
}

// P9.3: one more than there are of these, and together they are s again.
func TestWordsAllShort(t *testing.T) {
	texts("a,b;", 6, func(s string) {
		for _, sep := range []string{",", ";", "a", "x"} {
			l := arg.Words(s, sep[0])
			if len(l) != strings.Count(s, sep)+1 || strings.Join(l, sep) != s || slices.ContainsFunc(l, func(w string) bool { return strings.Contains(w, sep) }) {
				t.Errorf("Words(%q, %q) is %q", s, sep, l)
			}
		}
	})
}

// R2, R5: nothing of what is handed in is changed, and what stands behind it is not read.
func TestArgumentsStay(t *testing.T) {
	check := func(name string, l []string, behind string, call func(l ...string)) {
		t.Helper()
		room := spare.Behind(l, behind, behind, behind)
		before := slices.Clone(room[:cap(room)])
		if call(room...); !slices.Equal(room[:cap(room)], before) {
			t.Errorf("%s: the arguments are %q now", name, room[:cap(room)])
		}
	}
	opts := []api.Opt{o("a", "1"), o("b", "2")}
	check("Operands", []string{"a=1", "b=2"}, "a=1", func(l ...string) {
		if got, ok := arg.Operands(l...); !ok || !slices.Equal(got, opts) {
			t.Errorf("Operands is %q, %v", got, ok)
		}
	})
	check("Operands", []string{"a=1", "b"}, "c=3", func(l ...string) { arg.Operands(l...) })
	for _, in := range [][]string{{"-n", "1", "x", "-r"}, {"x", "--", "-r"}, {"--long=1", "x"}, {"-r", "-x"}, {}} {
		check("Flags", in, "-r", func(l ...string) {
			want, wantOK := wantFlags("rn:", slices.Clone(l))
			checkFlags(t, "rn:", l, want, wantOK)
		})
	}
	// The value that is not there is not the one behind the list.
	check("Flags", []string{"-n"}, "1", func(l ...string) { checkFlags(t, "rn:", l, api.Parsed{}, false) })
	check("Flags", []string{"--"}, "1", func(l ...string) { checkFlags(t, "rn:", l, api.Parsed{}, true) })
	check("Only", []string{"a"}, "b", func(keys ...string) {
		if arg.Only(opts, keys...) {
			t.Error("Only reads keys behind the last one")
		}
	})
	room := spare.Behind(opts, o("c", "3"), o("c", "3"), o("c", "3"))
	before := slices.Clone(room[:cap(room)])
	if val, ok := arg.Find(room, "c"); val != "" || ok || !arg.Only(room, "a", "b") {
		t.Error("what is behind the list is read")
	}
	if !slices.Equal(room[:cap(room)], before) {
		t.Errorf("the list is %q now", room[:cap(room)])
	}
}

// R2: what is answered is new memory: neither what is handed in later changed, nor another answer, changes it, nor it them.
func TestAnswersAreNew(t *testing.T) {
	for _, q := range [][]string{{"a=1"}, {"a=1", "b=2"}, {"conv=a", "conv=b", "conv=c"}, {"a=1", "b=1", "c=1", "d=1", "e=1"}} {
		want, _ := wantOperands(q)
		in := spare.Behind(q, "", "", "")
		first, _ := arg.Operands(in...)
		second, _ := arg.Operands(in...)
		spare.Spoil(in, "spoiled")
		if spare.Spoil(first, o("spoiled", "")); !slices.Equal(second, want) {
			t.Errorf("%q: an answer is %q now", q, second)
		}
		if third, ok := arg.Operands(q...); !ok || !slices.Equal(third, want) {
			t.Errorf("%q: a new answer is %q", q, third)
		}
	}
	for _, q := range [][]string{{"a"}, {"--", "a", "b"}, {"a", "--", "-r", "b", "c"}, {"-n", "1", "a", "--long=2", "b"}, {"-rrr", "a", "b", "c", "-rr", "d", "e"}, {"-rrrr", "-n1"}} {
		want, _ := wantFlags("rn:", q)
		in := spare.Behind(q, "", "", "")
		first, _ := arg.Flags("rn:", in...)
		second, _ := arg.Flags("rn:", in...)
		kept := slices.Clone(in[:cap(in)])
		spare.Spoil(first.Rest, "spoiled")
		if !slices.Equal(first.Opts, want.Opts) || !slices.Equal(in[:cap(in)], kept) {
			t.Errorf("%q: Rest shares: %q, %q", q, first.Opts, in[:cap(in)])
		}
		spare.Spoil(first.Opts, o("spoiled", ""))
		spare.Spoil(in, "spoiled")
		if !slices.Equal(second.Opts, want.Opts) || !slices.Equal(second.Rest, want.Rest) {
			t.Errorf("%q: an answer is %q now", q, second)
		}
		if third, ok := arg.Flags("rn:", q...); !ok || !slices.Equal(third.Opts, want.Opts) || !slices.Equal(third.Rest, want.Rest) {
			t.Errorf("%q: a new answer is %q", q, third)
		}
	}
	for _, s := range []string{"", "a", "a,b", "a,b,c", ",,,,"} {
		first, second := arg.Words(s, ','), arg.Words(s, ',')
		if spare.Spoil(first, "spoiled"); !slices.Equal(second, strings.Split(s, ",")) {
			t.Errorf("Words(%q) is %q now", s, second)
		}
	}
}
