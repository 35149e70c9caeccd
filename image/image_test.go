package image_test

import (
	"fmt"
	"maps"
	"math"
	"regexp"
	"slices"
	"strings"
	"testing"

	"salvor/api"
	"salvor/extent"
	"salvor/image"
	"salvor/spare"
)

const (
	top   = 1 << 62 // the greatest number of a file
	most  = 16      // how many files there may be
	size  = 1 << 40 // the greatest size
	write = 4096    // the most bytes of one write
)

// kinds are those that there are.
var kinds = []int{1, 2, 3, 4, 5, 6, 7}

// ext is a block with bytes at its front.
func ext(no int, b ...byte) api.Ext {
	e := api.Ext{No: no}
	copy(e.B[:], b)
	return e
}

func content(size int, l ...api.Ext) api.Content { return api.Content{Size: size, L: l} }

func name(s string, ino int) api.Name { return api.Name{Name: s, Ino: ino} }

func node(ino int, c api.Content) api.Node { return api.Node{Ino: ino, C: c} }

func bare(ino int) api.Node { return api.Node{Ino: ino} }

func files(names []api.Name, nodes ...api.Node) api.Image {
	return api.Image{Names: names, Nodes: nodes}
}

func names(l ...api.Name) []api.Name { return l }

func creating(s string, ino int) api.Op { return api.Op{Kind: 1, Name: s, Ino: ino} }

func writing(ino, pos int, b ...byte) api.Op { return api.Op{Kind: 2, Ino: ino, Pos: pos, B: b} }

func truncating(ino, size int) api.Op { return api.Op{Kind: 3, Ino: ino, Size: size} }

func allocating(ino, pos, n int, keep bool) api.Op {
	return api.Op{Kind: 4, Ino: ino, Pos: pos, Size: n, Keep: keep}
}

func punching(ino, pos, n int) api.Op { return api.Op{Kind: 5, Ino: ino, Pos: pos, Size: n} }

func renaming(s, to string) api.Op { return api.Op{Kind: 6, Name: s, To: to} }

func removing(s string) api.Op { return api.Op{Kind: 7, Name: s} }

// alike holds one image against another one without asking the package for it.
func alike(a, b api.Image) bool {
	return slices.Equal(a.Names, b.Names) && slices.EqualFunc(a.Nodes, b.Nodes, func(x, y api.Node) bool {
		return x.Ino == y.Ino && x.C.Size == y.C.Size && slices.Equal(x.C.L, y.C.L)
	})
}

func check(t *testing.T, what any, got, want api.Image) {
	t.Helper()
	if !alike(got, want) {
		t.Errorf("%v: %v; want %v", what, got, want)
	}
}

func checkGet(t *testing.T, i api.Image, ino int, want api.Content, wantOK bool) {
	t.Helper()
	c, ok := image.Get(i, ino)
	if ok != wantOK || c.Size != want.Size || !slices.Equal(c.L, want.L) {
		t.Errorf("%v: Get(%d) is %v, %v; want %v, %v", i, ino, c, ok, want, wantOK)
	}
}

func checkFind(t *testing.T, i api.Image, s string, want int, wantOK bool) {
	t.Helper()
	if ino, ok := image.Find(i, s); ino != want || ok != wantOK {
		t.Errorf("%v: Find(%q) is %d, %v; want %d, %v", i, s, ino, ok, want, wantOK)
	}
}

func checkUsed(t *testing.T, i api.Image, want int) {
	t.Helper()
	if n := image.Used(i); n != want {
		t.Errorf("%v: Used is %d; want %d", i, n, want)
	}
}

// nameRule is what a name is, said anew.
var nameRule = regexp.MustCompile(`\A[a-z0-9._][a-z0-9._-]{0,19}\z`)

// model is all files: the numbers of the names, and what is in the numbers' files.
type model struct {
	inos map[string]int
	in   map[int]api.Content
}

func modelOf(i api.Image) model {
	m := model{map[string]int{}, map[int]api.Content{}}
	for _, n := range i.Names {
		m.inos[n.Name] = n.Ino
	}
	for _, n := range i.Nodes {
		m.in[n.Ino] = content(n.C.Size, slices.Clone(n.C.L)...)
	}
	return m
}

func (m model) image() api.Image {
	var i api.Image
	for _, s := range slices.Sorted(maps.Keys(m.inos)) {
		i.Names = append(i.Names, name(s, m.inos[s]))
	}
	for _, ino := range slices.Sorted(maps.Keys(m.in)) {
		i.Nodes = append(i.Nodes, node(ino, m.in[ino]))
	}
	return i
}

// made is what extent makes of c by a change.
func made(c api.Content, o api.Op) (api.Content, bool) {
	switch o.Kind {
	case 2:
		return extent.Write(c, o.Pos, o.B)
	case 3:
		return extent.Truncate(c, o.Size)
	case 4:
		return extent.Allocate(c, o.Pos, o.Size, o.Keep)
	}
	return extent.Punch(c, o.Pos, o.Size)
}

// then is a model behind a change; the model itself stays.
func (m model) then(o api.Op) model {
	inos, in := maps.Clone(m.inos), maps.Clone(m.in)
	ino, there := inos[o.Name]
	_, has := in[o.Ino]
	switch o.Kind {
	case 1:
		if nameRule.MatchString(o.Name) && !there && o.Ino > 0 && o.Ino <= top && !has && len(inos) < most {
			inos[o.Name], in[o.Ino] = o.Ino, api.Content{}
		}
	case 2, 3, 4, 5:
		if c, ok := made(in[o.Ino], o); has && ok {
			in[o.Ino] = c
		}
	case 6:
		if there && nameRule.MatchString(o.To) && o.To != o.Name {
			if gone, ok := inos[o.To]; ok {
				delete(in, gone)
			}
			delete(inos, o.Name)
			inos[o.To] = ino
		}
	case 7:
		if there {
			delete(inos, o.Name)
			delete(in, ino)
		}
	}
	return model{inos, in}
}

func TestRunsOfTheChapter(t *testing.T) { // P12.1 to P12.4
	i := image.All(api.Image{}, creating("a", 1), writing(1, 0, 5), renaming("a", "b"))
	check(t, "the run", i, files(names(name("b", 1)), node(1, content(1, ext(0, 5)))))
	if !image.May(i) || image.Used(i) != 1 {
		t.Error(i)
	}
	checkFind(t, i, "b", 1, true)
	checkFind(t, i, "a", 0, false)
	checkGet(t, i, 1, content(1, ext(0, 5)), true)
}

func TestMayName(t *testing.T) { // P12.1
	for s, want := range map[string]bool{
		"": false, "a": true, "z": true, "0": true, "9": true, ".": true, "..": true, "_": true, "-": false, "a-": true, "--": false, "-a": false, "_-": true, ".-": true, "0-9": true,
		"A": false, "aZ": false, "a b": false, " a": false, "a ": false, "a/b": false, "/": false, "a\n": false, "\na": false, "a\x00": false, "\x00": false, "a:b": false, "a`": false, "a{": false, "a,b": false,
		"\u00e9": false, "a\u0430": false, "\uff41": false, "\xe1": false, "a\xff": false, "new.map_1-x": true,
	} {
		if image.MayName(s) != want {
			t.Errorf("%q: %v", s, !want)
		}
	}
}

func TestMayNameOfEachLength(t *testing.T) { // P12.1
	for n := range 600 {
		for _, s := range []string{"a", ".", "_", "7"} {
			if want := n >= 1 && n <= 20; image.MayName(strings.Repeat(s, n)) != want {
				t.Errorf("%d of %q: %v", n, s, !want)
			}
		}
		if want := n < 20; image.MayName("x"+strings.Repeat("-", n)) != want {
			t.Errorf("%d '-' behind another: %v", n, !want)
		}
	}
}

func TestMayNameOfEachByte(t *testing.T) { // P12.1
	for b := range 256 {
		s := string([]byte{byte(b)})
		in := strings.Contains("abcdefghijklmnopqrstuvwxyz0123456789._-", s)
		for n := range 20 {
			for at := range n + 1 {
				whole := strings.Repeat("m", at) + s + strings.Repeat("m", n-at)
				if want := in && (at > 0 || s != "-"); image.MayName(whole) != want {
					t.Errorf("%q: %v", whole, !want)
				}
			}
		}
	}
}

// three is an image whose names and numbers do not go alike.
func three() api.Image {
	return files(names(name("b", 5), name("d", 9), name("f", 2)),
		node(2, content(3, ext(0, 1, 2, 3))),
		node(5, content(0)),
		node(9, content(40, ext(1, 7), ext(4, 1, 1, 1, 1, 1, 1, 1, 1), ext(9))))
}

// letter is the n-th of names that rise.
func letter(n int) string { return string(rune('a' + n)) }

// many is an image of n empty files; their numbers fall, as their names rise.
func many(n int) api.Image {
	var i api.Image
	for k := range n {
		i.Names = append(i.Names, name(letter(k), 10*(n-k)))
		i.Nodes = append(i.Nodes, bare(10*(k+1)))
	}
	return i
}

// one is an image of one file.
func one(s string, ino int) api.Image { return files(names(name(s, ino)), bare(ino)) }

// changed is i behind a change of it.
func changed(i api.Image, change func(i *api.Image)) api.Image {
	change(&i)
	return i
}

// fine are images that may be.
func fine() []api.Image {
	return []api.Image{
		{}, {Names: []api.Name{}}, {Nodes: []api.Node{}}, {Names: []api.Name{}, Nodes: []api.Node{}},
		three(), many(1), many(2), many(15), many(16),
		one("a", 1), one("a", 2), one("a", top-1), one("a", top), one(strings.Repeat("z", 20), 1), one(".", 1), one("_", 1<<32),
		files(names(name("a", 1), name("b", top)), bare(1), bare(top)),
		files(names(name("a", top), name("b", 1)), bare(1), bare(top)),
		files(names(name("a", 2), name("a-", 3), name("a.", 1), name("a0", 5), name("a_", 4), name("aa", 6)), bare(1), bare(2), bare(3), bare(4), bare(5), bare(6)),
		files(names(name("a", 1)), node(1, content(0, ext(0), ext(1<<37-1)))),
		files(names(name("a", 1)), node(1, content(size, ext(1<<37-1, 1, 2, 3, 4, 5, 6, 7, 8)))),
		files(names(name("a", 1)), node(1, api.Content{L: []api.Ext{}})),
	}
}

// wrongContents are such as may not be.
func wrongContents() []api.Content {
	return []api.Content{
		content(-1), content(size + 1), content(math.MinInt), content(math.MaxInt),
		content(9, ext(-1)), content(9, ext(1<<37)), content(9, ext(1), ext(0)), content(9, ext(1), ext(1)), content(9, ext(math.MinInt)), content(9, ext(1<<61)),
		content(0, ext(0, 1)), content(1, ext(0, 1, 1)), content(9, ext(5, 0, 0, 0, 0, 0, 0, 0, 1)), content(8, ext(0, 1), ext(1, 1)),
	}
}

// wrong are images that may not be, each for one reason.
func wrong() []api.Image {
	l := []api.Image{
		many(17), many(26),
		{Names: three().Names}, {Nodes: three().Nodes}, {Names: names(name("a", 1))}, {Nodes: []api.Node{bare(1)}},
		files(names(name("a", 1), name("a", 2)), bare(1), bare(2)),
		files(names(name("b", 1), name("a", 2)), bare(1), bare(2)),
		files(names(name("aa", 1), name("a", 2)), bare(1), bare(2)),
		files(names(name("a", 1), name("c", 2), name("b", 3)), bare(1), bare(2), bare(3)),
		files(names(name("a", 1), name("c", 2), name("c", 3)), bare(1), bare(2), bare(3)),
		files(names(name("b", 1), name("a", 2), name("c", 3)), bare(1), bare(2), bare(3)),
		files(names(name("a", 1), name("b", 1)), bare(1)),
		files(names(name("a", 1), name("b", 1)), bare(1), bare(1)),
		files(names(name("a", 1), name("b", 1)), bare(1), bare(2)),
		files(names(name("a", 2), name("b", 2)), bare(1), bare(2)),
		files(names(name("a", 1), name("b", 2), name("c", 1)), bare(1), bare(2)),
		files(names(name("a", 1), name("b", 2), name("c", 1)), bare(1), bare(1), bare(2)),
		files(names(name("a", 1), name("b", 2), name("c", 1)), bare(1), bare(2), bare(3)),
		files(names(name("a", 1), name("b", 2)), bare(2), bare(1)),
		files(names(name("a", 2), name("b", 1)), bare(2), bare(1)),
		files(names(name("a", 1), name("b", 2)), bare(1), bare(1)),
		files(names(name("a", 1), name("b", 2)), bare(2), bare(2)),
		files(names(name("a", 1), name("b", 2)), bare(1), bare(2), bare(2)),
		files(names(name("a", 1), name("b", 2)), bare(1), bare(1), bare(2)),
		files(names(name("a", 1), name("b", 2), name("c", 3)), bare(1), bare(3), bare(2)),
		files(names(name("a", 1), name("b", 2)), bare(1)),
		files(names(name("a", 1), name("b", 2)), bare(2)),
		files(names(name("a", 1)), bare(1), bare(2)),
		files(names(name("a", 2)), bare(1), bare(2)),
		files(names(name("a", 1)), bare(2)),
		files(names(name("a", 1), name("b", 3)), bare(1), bare(2)),
		files(names(name("a", 1), name("b", 3)), bare(2), bare(3)),
		files(names(name("a", 2), name("b", 4), name("c", 6)), bare(2), bare(5), bare(6)),
		files(names(name("a", 1)), bare(1), bare(0)),
		files(names(name("a", 1)), bare(-1), bare(1)),
	}
	for _, ino := range []int{-1, 0, top + 1, math.MinInt, math.MaxInt, -top} {
		l = append(l, one("a", ino))
		if ino < 1 {
			l = append(l, files(names(name("a", ino), name("b", 1)), bare(ino), bare(1)), files(names(name("a", 1), name("b", ino)), bare(ino), bare(1)))
			continue
		}
		l = append(l, files(names(name("a", 1), name("b", ino)), bare(1), bare(ino)))
	}
	for _, s := range []string{"", "-a", "A", "a/", "\xff", strings.Repeat("a", 21)} {
		l = append(l, one(s, 1))
		// It goes where it rises, so that nothing else is wrong.
		for k := range 4 {
			r := []string{"0", "a", "c"}
			r = slices.Insert(r, k, s)
			if slices.IsSorted(r) {
				l = append(l, files(names(name(r[0], 1), name(r[1], 2), name(r[2], 3), name(r[3], 4)), bare(1), bare(2), bare(3), bare(4)))
			}
		}
	}
	for _, c := range wrongContents() {
		for k := range 3 {
			i := three()
			i.Nodes[k].C = c
			l = append(l, i)
		}
	}
	return l
}

func TestMay(t *testing.T) { // P12.1
	for k, i := range fine() {
		if !image.May(i) {
			t.Errorf("%d, %v may not be", k, i)
		}
	}
	for k, i := range wrong() {
		if image.May(i) {
			t.Errorf("%d, %v may be", k, i)
		}
	}
}

// may is what the chapter says of May, said anew.
func may(i api.Image) bool {
	if len(i.Names) > most {
		return false
	}
	for k, n := range i.Names {
		nodes := 0
		for _, x := range i.Nodes {
			if x.Ino == n.Ino {
				nodes++
			}
		}
		if !nameRule.MatchString(n.Name) || n.Ino < 1 || n.Ino > top || nodes != 1 {
			return false
		}
		for _, ahead := range i.Names[:k] {
			if ahead.Name >= n.Name || ahead.Ino == n.Ino {
				return false
			}
		}
	}
	for k, x := range i.Nodes {
		if !slices.ContainsFunc(i.Names, func(n api.Name) bool { return n.Ino == x.Ino }) || !extent.May(x.C) {
			return false
		}
		for _, ahead := range i.Nodes[:k] {
			if ahead.Ino >= x.Ino {
				return false
			}
		}
	}
	return true
}

// lists are all lists of at most n of these.
func lists[T any](n int, of []T) [][]T {
	all := [][]T{nil}
	from := 0
	for range n {
		to := len(all)
		for _, l := range all[from:to] {
			for _, x := range of {
				all = append(all, append(slices.Clone(l), x))
			}
		}
		from = to
	}
	return all
}

func TestMayOfAllSmallImages(t *testing.T) { // P12.1
	var ns []api.Name
	for _, s := range []string{"a", "b", "c"} {
		for _, ino := range []int{0, 1, 2, 3} {
			ns = append(ns, name(s, ino))
		}
	}
	ns = append(ns, name("-", 1))
	xs := []api.Node{bare(0), bare(1), node(2, content(1, ext(0, 1))), bare(3), node(1, content(0, ext(0, 1))), bare(4)}
	count := 0
	for _, n := range lists(3, ns) {
		for _, x := range lists(3, xs) {
			i := files(n, x...)
			want := may(i)
			if image.May(i) != want {
				t.Fatalf("%v: %v", i, !want)
			}
			if want {
				count++
			}
		}
	}
	if count < 20 {
		t.Errorf("only %d of them may be", count)
	}
}

func TestOfNoneThatMayBe(t *testing.T) { // P12.2
	for _, i := range wrong() {
		for _, s := range []string{"a", "b", "c", "d", "f", "A", "", "-a", "x"} {
			checkFind(t, i, s, 0, false)
		}
		for _, n := range i.Names {
			checkFind(t, i, n.Name, 0, false)
		}
		for _, ino := range []int{-1, 0, 1, 2, 3, 5, 9, 10, top, top + 1, math.MinInt, math.MaxInt} {
			checkGet(t, i, ino, api.Content{}, false)
		}
		for _, n := range i.Nodes {
			checkGet(t, i, n.Ino, api.Content{}, false)
		}
		checkUsed(t, i, 0)
	}
}

func TestFind(t *testing.T) { // P12.2
	for s, want := range map[string]int{"b": 5, "d": 9, "f": 2, "": 0, "a": 0, "c": 0, "e": 0, "g": 0, "bb": 0, "dd": 0, "B": 0, "-b": 0, "b ": 0, "~": 0, "\xff": 0, "0": 0, strings.Repeat("b", 21): 0, strings.Repeat("d", 4000): 0} {
		checkFind(t, three(), s, want, want > 0)
		checkFind(t, api.Image{}, s, 0, false)
	}
	for n := range most + 1 {
		for k := range 26 {
			want := max(10*(n-k), 0)
			checkFind(t, many(n), letter(k), want, want > 0)
			checkFind(t, many(n), letter(k)+".", 0, false)
		}
	}
}

func TestGet(t *testing.T) { // P12.2
	i := three()
	for k, ino := range []int{2, 5, 9} {
		checkGet(t, i, ino, three().Nodes[k].C, true)
	}
	for _, ino := range []int{0, 1, 3, 4, 6, 8, 10, -1, -2, -5, -9, top, top + 1, math.MinInt, math.MaxInt, 1<<32 + 5, 1<<8 + 2} {
		checkGet(t, i, ino, api.Content{}, false)
		checkGet(t, api.Image{}, ino, api.Content{}, false)
	}
	for n := range most + 1 {
		i := many(n)
		for k := range n {
			i.Nodes[k].C = content(k+1, ext(k+2))
		}
		for ino := range 10*most + 20 {
			k := ino/10 - 1
			if ino%10 != 0 || k < 0 || k >= n {
				checkGet(t, i, ino, api.Content{}, false)
				continue
			}
			checkGet(t, i, ino, content(k+1, ext(k+2)), true)
		}
	}
	checkGet(t, one("a", top), top, api.Content{}, true)
}

func TestUsed(t *testing.T) { // P12.2
	checkUsed(t, api.Image{}, 0)
	checkUsed(t, three(), 4)
	checkUsed(t, many(16), 0)
	// What counts is that blocks are there, not what is in them, nor the size.
	i := many(16)
	for k := range i.Nodes {
		for no := range k {
			i.Nodes[k].C.L = append(i.Nodes[k].C.L, ext(3*no+k))
		}
	}
	checkUsed(t, i, 120)
	i.Nodes[0].C.Size = size
	checkUsed(t, i, 120)
	i.Nodes[15].C.L = nil
	checkUsed(t, i, 105)
}

func TestSame(t *testing.T) { // P12.2
	var l []api.Image
	l = append(l, fine()[3:]...)
	l = append(l, wrong()...)
	for _, change := range []func(i *api.Image){
		func(i *api.Image) { i.Names[0].Name = "c" },
		func(i *api.Image) { i.Names[1].Name = "d." },
		func(i *api.Image) { i.Names[2].Name = "g" },
		func(i *api.Image) { i.Names[0].Ino = 6 },
		func(i *api.Image) { i.Names[2].Ino = 3 },
		func(i *api.Image) { i.Names[0], i.Names[1] = i.Names[1], i.Names[0] },
		func(i *api.Image) { i.Names = i.Names[:2] },
		func(i *api.Image) { i.Names = i.Names[1:] },
		func(i *api.Image) { i.Nodes[0], i.Nodes[1] = i.Nodes[1], i.Nodes[0] },
		func(i *api.Image) { i.Nodes[0].Ino = 1 },
		func(i *api.Image) { i.Nodes[2].Ino = 10 },
		func(i *api.Image) { i.Nodes = i.Nodes[:2] },
		func(i *api.Image) { i.Nodes = i.Nodes[1:] },
		func(i *api.Image) { i.Nodes = append(i.Nodes, bare(11)) },
		func(i *api.Image) { i.Nodes[0].C.Size = 4 },
		func(i *api.Image) { i.Nodes[1].C.Size = 1 },
		func(i *api.Image) { i.Nodes[2].C.Size = 41 },
		func(i *api.Image) { i.Nodes[0].C.L[0].No = 1 },
		func(i *api.Image) { i.Nodes[2].C.L[1].No = 5 },
		func(i *api.Image) { i.Nodes[0].C.L[0].B[2] = 4 },
		func(i *api.Image) { i.Nodes[0].C.L[0].B[7] = 4 },
		func(i *api.Image) { i.Nodes[2].C.L[0].B[0] = 8 },
		func(i *api.Image) { i.Nodes[2].C.L[2].B[7] = 1 },
		func(i *api.Image) { i.Nodes[0].C.L = nil },
		func(i *api.Image) { i.Nodes[1].C.L = []api.Ext{ext(0)} },
		func(i *api.Image) { i.Nodes[2].C.L = i.Nodes[2].C.L[:2] },
		func(i *api.Image) { i.Nodes[2].C.L = i.Nodes[2].C.L[1:] },
		func(i *api.Image) { i.Nodes[1].C.L = i.Nodes[2].C.L; i.Nodes[2].C.L = nil },
	} {
		l = append(l, changed(three(), change))
	}
	for j, a := range l {
		for k, b := range l {
			want := alike(a, b)
			if j == k && !want {
				t.Fatalf("%d is unlike itself", j)
			}
			if image.Same(a, b) != want {
				t.Errorf("%d, %v and %d, %v: %v", j, a, k, b, !want)
			}
		}
		if again := modelOf(three()).image(); image.Same(a, again) != alike(a, three()) {
			t.Errorf("%d, %v, and one in other memory", j, a)
		}
	}
}

// full is a change of that kind that would do something to three, were it of each of the kinds.
func full(kind int) api.Op {
	o := api.Op{Kind: kind, Ino: 9, Pos: 4, Size: 20, Name: "b", To: "e", B: []byte{1, 2}}
	if kind == 1 {
		o.Name, o.Ino = "c", 1
	}
	return o
}

func TestApplyOfNoKind(t *testing.T) { // P12.3
	for _, kind := range []int{0, -1, -2, -7, 8, 9, 15, 255, 256, 257, 1<<8 + 2, 1<<16 + 3, 1<<32 + 1, 1<<32 + 6, 1<<62 + 7, math.MinInt, math.MinInt + 1, math.MinInt + 7, math.MaxInt} {
		o := full(kind)
		check(t, o, image.Apply(three(), o), three())
		o.Name, o.Ino = "c", 1
		check(t, o, image.Apply(three(), o), three())
		check(t, o, image.Apply(api.Image{}, o), api.Image{})
	}
	for _, kind := range kinds {
		if alike(image.Apply(three(), full(kind)), three()) {
			t.Errorf("kind %d does nothing", kind)
		}
	}
}

func TestApplyOfNoneThatMayBe(t *testing.T) { // P12.3, P12.4
	for _, i := range wrong() {
		for _, kind := range append([]int{0, 8}, kinds...) {
			for _, ino := range []int{0, 1, 2, 9} {
				for _, s := range []string{"a", "b", "n"} {
					o := api.Op{Kind: kind, Ino: ino, Pos: 0, Size: 1, Name: s, To: "e", B: []byte{1}}
					check(t, o, image.Apply(i, o), i)
					check(t, o, image.All(i, o, o), i)
				}
			}
		}
		// What would make it one that may be is a change like all others.
		all := image.All(i, removing("a"), truncating(2, 0), truncating(5, 0), truncating(9, 0), creating("n", 1))
		check(t, "all", all, i)
		check(t, "no change", image.All(i), i)
	}
}

// spots are three files in an image, with room ahead of, between and behind them: names and numbers.
var spots = []struct {
	s   string
	ino int
}{{"a", 1}, {"c", 3}, {"e", 7}, {"g", 10}}

func TestCreate(t *testing.T) { // P12.3
	check(t, "first", image.Apply(api.Image{}, creating("q", 77)), one("q", 77))
	check(t, "first, the greatest", image.Apply(api.Image{}, creating("q", top)), one("q", top))
	for at, p := range spots {
		for to, q := range spots {
			want := three()
			want.Names = slices.Insert(want.Names, at, name(p.s, q.ino))
			want.Nodes = slices.Insert(want.Nodes, to, bare(q.ino))
			check(t, p.s, image.Apply(three(), creating(p.s, q.ino)), want)
		}
	}
	// Only the name and the number count.
	o := api.Op{Kind: 1, Name: "a", Ino: 1, Pos: 8, Size: 5, Keep: true, To: "z", B: []byte{1}}
	check(t, o, image.Apply(api.Image{}, o), one("a", 1))
	long := strings.Repeat("m", 20)
	check(t, "a long name", image.Apply(api.Image{}, creating(long, 1)), one(long, 1))
}

func TestCreateRefused(t *testing.T) { // P12.3
	for _, s := range []string{"", "b", "d", "f", "-c", "C", "c/", "c\x00", strings.Repeat("c", 21), "\xff"} {
		check(t, s, image.Apply(three(), creating(s, 3)), three())
	}
	for _, ino := range []int{0, -1, -2, 2, 5, 9, top + 1, math.MinInt, math.MaxInt} {
		check(t, ino, image.Apply(three(), creating("c", ino)), three())
	}
	for _, ino := range []int{0, -1, top + 1, math.MinInt, math.MaxInt} {
		check(t, ino, image.Apply(api.Image{}, creating("c", ino)), api.Image{})
	}
	for _, s := range []string{"", "-c", "C", strings.Repeat("c", 21)} {
		check(t, s, image.Apply(api.Image{}, creating(s, 1)), api.Image{})
	}
}

func TestCreateOfTheMost(t *testing.T) { // P12.3
	for _, p := range []struct {
		s   string
		ino int
	}{{"0", 1}, {"cc", 85}, {"z", 200}, {"z", 1}, {"0", 200}} {
		o := creating(p.s, p.ino)
		for n := range most {
			want := modelOf(many(n))
			want.inos[p.s], want.in[p.ino] = p.ino, api.Content{}
			got := image.Apply(many(n), o)
			check(t, n, got, want.image())
			if !image.May(got) {
				t.Errorf("%v may not be", got)
			}
		}
		check(t, o, image.Apply(many(16), o), many(16))
	}
	var l []api.Op
	for k := range 26 {
		l = append(l, creating(letter(25-k), 1000-k))
	}
	got := image.All(api.Image{}, l...)
	if len(got.Names) != 16 || got.Names[0].Name != "k" || got.Names[15].Name != "z" || !image.May(got) {
		t.Error(got)
	}
	// A name that is free again is a name that may be made.
	got = image.All(got, removing("k"), creating("a", 1), creating("b", 2))
	if len(got.Names) != 16 || got.Names[0] != name("a", 1) || got.Names[1].Name != "l" {
		t.Error(got)
	}
}

// numbers are such as a place, a size or a count may be, and may not be.
var numbers = []int{math.MinInt, -1 << 61, -9, -1, 0, 1, 2, 7, 8, 9, 16, 31, 32, 40, 79, 80, 100, 4096, 4096 * 8, 4096*8 + 1, size - 1, size, size + 1, 1 << 61, top, top + 1, math.MaxInt}

// changes are all changes of what is in the file ino, by these numbers.
func changes(ino int) (l []api.Op) {
	for _, n := range numbers {
		l = append(l, truncating(ino, n))
		for _, b := range [][]byte{nil, {}, {7}, {1, 2, 3, 4, 5, 6, 7, 8, 9}, make([]byte, write), make([]byte, write+1)} {
			l = append(l, writing(ino, n, b...))
		}
	}
	for _, pos := range numbers {
		for _, n := range numbers {
			l = append(l, allocating(ino, pos, n, false), allocating(ino, pos, n, true), punching(ino, pos, n))
		}
	}
	return l
}

func TestContents(t *testing.T) { // P12.3
	for k, ino := range []int{2, 5, 9} {
		done := map[int]int{}
		for _, o := range changes(ino) {
			want := three()
			c, ok := made(want.Nodes[k].C, o)
			if ok {
				want.Nodes[k].C = c
				if !alike(want, three()) {
					done[o.Kind]++
				}
			}
			// Fields that mean nothing to these kinds change nothing.
			o.Name, o.To = "b", "d"
			got := image.Apply(three(), o)
			if !alike(got, want) {
				t.Fatalf("kind %d of %d: %d, %d, %v: %v; want %v", o.Kind, ino, o.Pos, o.Size, o.Keep, got, want)
			}
			if !image.May(got) {
				t.Fatalf("%v may not be", got)
			}
		}
		if done[2] < 5 || done[3] < 5 || done[4] < 5 || ino != 5 && done[5] < 5 {
			t.Errorf("of %d too few do something: %v", ino, done)
		}
	}
}

func TestContentsOfNoFile(t *testing.T) { // P12.3
	for _, ino := range []int{0, 1, 3, 4, 6, 8, 10, -1, -5, top, top + 1, math.MinInt, math.MaxInt, 1<<32 + 5} {
		for _, o := range []api.Op{writing(ino, 0, 1), writing(ino, 0), truncating(ino, 0), truncating(ino, 9), allocating(ino, 0, 1, false), allocating(ino, 0, 1, true), punching(ino, 0, 80)} {
			o.Name, o.To = "b", "d"
			check(t, o, image.Apply(three(), o), three())
			check(t, o, image.Apply(api.Image{}, o), api.Image{})
		}
	}
}

func TestContentsByHand(t *testing.T) { // P12.3
	for _, q := range []struct {
		o    api.Op
		node int
		want api.Content
	}{
		{writing(2, 2, 8, 9), 0, content(4, ext(0, 1, 2, 8, 9))},
		{writing(5, 15, 8, 9), 1, content(17, ext(1, 0, 0, 0, 0, 0, 0, 0, 8), ext(2, 9))},
		{writing(5, size-1, 3), 1, content(size, ext(1<<37-1, 0, 0, 0, 0, 0, 0, 0, 3))},
		{writing(9, 7), 2, three().Nodes[2].C},
		{truncating(2, 1), 0, content(1, ext(0, 1))},
		{truncating(2, 0), 0, content(0)},
		{truncating(5, size), 1, content(size)},
		{truncating(9, 35), 2, content(35, ext(1, 7), ext(4, 1, 1, 1))},
		{allocating(2, 7, 2, false), 0, content(9, ext(0, 1, 2, 3), ext(1))},
		{allocating(2, 7, 2, true), 0, content(3, ext(0, 1, 2, 3), ext(1))},
		{allocating(5, 0, 1, true), 1, content(0, ext(0))},
		{punching(2, 0, 8), 0, content(3)},
		{punching(2, 1, 1), 0, content(3, ext(0, 1, 0, 3))},
		{punching(9, 0, size), 2, content(40)},
		{punching(9, 9, 30), 2, content(40, ext(1, 7), ext(4, 0, 0, 0, 0, 0, 0, 0, 1), ext(9))},
	} {
		want := three()
		want.Nodes[q.node].C = q.want
		check(t, q.o, image.Apply(three(), q.o), want)
	}
}

func TestRename(t *testing.T) { // P12.3
	for k, from := range []string{"b", "d", "f"} {
		for _, to := range []string{"a", "c", "e", "g", "0", ".", "_-", from + ".", strings.Repeat("b", 20)} {
			want := three()
			was := want.Names[k]
			want.Names = slices.Delete(want.Names, k, k+1)
			want.Names = append(want.Names, name(to, was.Ino))
			slices.SortFunc(want.Names, func(a, b api.Name) int { return strings.Compare(a.Name, b.Name) })
			o := renaming(from, to)
			o.Ino, o.Pos, o.Size, o.Keep, o.B = 5, 1, 1, true, []byte{1}
			check(t, o, image.Apply(three(), o), want)
		}
	}
	check(t, "the only one", image.Apply(one("a", 4), renaming("a", "b")), one("b", 4))
}

func TestRenameOverAnother(t *testing.T) { // P12.3
	b, d, f := name("b", 5), name("d", 9), name("f", 2)
	n := three().Nodes
	for _, q := range []struct {
		from, to string
		want     api.Image
	}{
		{"b", "d", files(names(name("d", 5), f), n[0], n[1])},
		{"b", "f", files(names(d, name("f", 5)), n[1], n[2])},
		{"d", "b", files(names(name("b", 9), f), n[0], n[2])},
		{"d", "f", files(names(b, name("f", 9)), n[1], n[2])},
		{"f", "b", files(names(name("b", 2), d), n[0], n[2])},
		{"f", "d", files(names(b, name("d", 2)), n[0], n[1])},
	} {
		got := image.Apply(three(), renaming(q.from, q.to))
		check(t, q.from+" to "+q.to, got, q.want)
		if len(got.Names) != 2 || len(got.Nodes) != 2 || !image.May(got) {
			t.Error(got)
		}
	}
	for from := range 16 {
		for to := range 16 {
			o := renaming(letter(from), letter(to))
			check(t, o, image.Apply(many(16), o), modelOf(many(16)).then(o).image())
		}
	}
}

func TestRenameRefused(t *testing.T) { // P12.3
	for _, s := range []string{"b", "d", "f"} {
		for _, to := range []string{s, "", "-a", "A", "a b", "\xff", "a\n", strings.Repeat("a", 21)} {
			check(t, s+" to "+to, image.Apply(three(), renaming(s, to)), three())
		}
	}
	for _, s := range []string{"", "a", "c", "e", "g", "B", "-b", "bb", "\xff"} {
		for _, to := range []string{"b", "d", "f", "x", "a", s} {
			check(t, s+" to "+to, image.Apply(three(), renaming(s, to)), three())
		}
		check(t, s, image.Apply(api.Image{}, renaming(s, "b")), api.Image{})
	}
	// To is asked, Name's rule is not: a file that is there has a name that may be.
	check(t, "one alone", image.Apply(one("a", 1), renaming("a", "a")), one("a", 1))
	check(t, "of none", image.Apply(one("a", 1), renaming("b", "a")), one("a", 1))
}

func TestRemove(t *testing.T) { // P12.3
	b, d, f := name("b", 5), name("d", 9), name("f", 2)
	n := three().Nodes
	for s, want := range map[string]api.Image{
		"b": files(names(d, f), n[0], n[2]),
		"d": files(names(b, f), n[0], n[1]),
		"f": files(names(b, d), n[1], n[2]),
	} {
		o := removing(s)
		o.Ino, o.Pos, o.Size, o.Keep, o.To, o.B = 2, 1, 1, true, "d", []byte{1}
		got := image.Apply(three(), o)
		check(t, s, got, want)
		if !image.May(got) {
			t.Errorf("%v may not be", got)
		}
	}
	check(t, "the only one", image.Apply(one("a", 4), removing("a")), api.Image{})
	for k := range 26 {
		o := removing(letter(k))
		check(t, o, image.Apply(many(16), o), modelOf(many(16)).then(o).image())
	}
}

func TestRemoveRefused(t *testing.T) { // P12.3
	for _, s := range []string{"", "a", "c", "e", "g", "B", "-b", "bb", "\xff", strings.Repeat("b", 21)} {
		check(t, s, image.Apply(three(), removing(s)), three())
		check(t, s, image.Apply(api.Image{}, removing(s)), api.Image{})
	}
}

func TestAll(t *testing.T) { // P12.4
	check(t, "none", image.All(three()), three())
	check(t, "none of nothing", image.All(api.Image{}), api.Image{})
	check(t, "one", image.All(three(), removing("d")), image.Apply(three(), removing("d")))
	l := []api.Op{
		creating("a", 1), creating("a", 2), writing(1, 0, 1, 2), {Kind: 8, Name: "a"}, writing(1, 2, 3), writing(3, 0, 9), creating("b", 2),
		renaming("a", "c"), renaming("a", "b"), writing(1, 8, 4), creating("a", 1), truncating(1, -1), creating("a", 3), allocating(3, 8, 8, true), renaming("b", "a"), {}, writing(3, 0, 9),
	}
	want := files(names(name("a", 2), name("c", 1)), node(1, content(9, ext(0, 1, 2, 3), ext(1, 4))), bare(2))
	check(t, "several, one behind the other", image.All(api.Image{}, l...), want)
	step := api.Image{}
	for k, o := range l {
		step = image.Apply(step, o)
		check(t, k, image.All(api.Image{}, l[:k+1]...), step)
		check(t, k, image.All(step, l[k+1:]...), want)
	}
	// The order counts.
	check(t, "made and gone", image.All(api.Image{}, creating("a", 1), removing("a")), api.Image{})
	check(t, "gone and made", image.All(api.Image{}, removing("a"), creating("a", 1)), one("a", 1))
	check(t, "a number that is free again", image.All(one("a", 1), writing(1, 0, 5), removing("a"), creating("b", 1)), one("b", 1))
}

func TestAllOfVeryMany(t *testing.T) { // P12.4
	var l []api.Op
	want := one("a", 1)
	for k := range 20000 {
		l = append(l, writing(1, k%64, byte(k)))
	}
	var all [64]byte
	for k := range 20000 {
		all[k%64] = byte(k)
	}
	for no := range 8 {
		want.Nodes[0].C.L = append(want.Nodes[0].C.L, ext(no, all[no*8:no*8+8]...))
	}
	want.Nodes[0].C.Size = 64
	check(t, "20000 writes", image.All(one("a", 1), l...), want)
}

// judge holds an image against its model by all that can be asked of it.
func judge(t *testing.T, what any, i api.Image, m model) {
	t.Helper()
	want := m.image()
	if !alike(i, want) {
		t.Fatalf("%v: %v; want %v", what, i, want)
	}
	if !image.May(i) || !image.Same(i, want) {
		t.Fatalf("%v: %v may not be, or is not the same", what, i)
	}
	for _, s := range []string{"a", "b", "c", "d"} {
		ino, ok := m.inos[s]
		checkFind(t, i, s, ino, ok)
	}
	for ino := range 5 {
		c, ok := m.in[ino]
		checkGet(t, i, ino, c, ok)
	}
	blocks := 0
	for _, c := range m.in {
		blocks += len(c.L)
	}
	checkUsed(t, i, blocks)
}

// histories goes through all lists of so many changes of a menu, and hands each of them to see.
func histories(menu []api.Op, left int, done []api.Op, i api.Image, m model, see func(done []api.Op, i api.Image, m model)) {
	see(done, i, m)
	if left == 0 {
		return
	}
	for _, o := range menu {
		histories(menu, left-1, append(slices.Clone(done), o), image.Apply(i, o), m.then(o), see)
	}
}

func TestEveryShortHistory(t *testing.T) { // P12.1 to P12.4
	menu := []api.Op{
		creating("a", 2), creating("b", 1), creating("c", 3), creating("a", 1),
		writing(1, 6, 1, 2, 3), writing(2, 0, 4), truncating(1, 7), truncating(2, 9), allocating(2, 8, 9, false), allocating(1, 0, 1, true), punching(1, 0, 8), punching(2, 0, 16),
		renaming("a", "b"), renaming("b", "a"), renaming("b", "d"), renaming("c", "a"), removing("a"), removing("b"),
	}
	start := image.All(api.Image{}, creating("b", 2), writing(2, 3, 9))
	for _, i := range []api.Image{{}, start} {
		histories(menu, 4, nil, i, modelOf(i), func(done []api.Op, j api.Image, m model) {
			judge(t, done, j, m)
			check(t, done, image.All(i, done...), j)
		})
	}
}

func TestHistoriesOfNames(t *testing.T) { // P12.3, P12.4
	var menu []api.Op
	for _, s := range []string{"a", "b", "c"} {
		menu = append(menu, creating(s, 1), creating(s, 2), creating(s, 3), removing(s))
		for _, to := range []string{"a", "b", "c"} {
			menu = append(menu, renaming(s, to))
		}
	}
	histories(menu, 4, nil, api.Image{}, modelOf(api.Image{}), func(done []api.Op, i api.Image, m model) {
		if !alike(i, m.image()) {
			t.Fatalf("%v: %v; want %v", done, i, m.image())
		}
	})
}

func TestLongHistories(t *testing.T) { // P12.3, P12.4
	var menu []api.Op
	for k := range 20 {
		s := letter(k)
		menu = append(menu, creating(s, 50-k), creating(s, 1+k*3%20), writing(1+k, 5*k, byte(k+1), 2, 3, 4), writing(50-k, k, 1), renaming(s, letter(k*7%20)), truncating(1+k, 3*k), allocating(50-k, k, 9, k%2 == 0), punching(1+k, 2*k, 9))
		if k%4 == 0 {
			menu = append(menu, removing(s))
		}
	}
	for step := 1; step < 40; step += 2 {
		i, m := api.Image{}, modelOf(api.Image{})
		var l []api.Op
		crowd := 0
		for k := range 400 {
			o := menu[(k*step+k/7)%len(menu)]
			l = append(l, o)
			i, m = image.Apply(i, o), m.then(o)
			judge(t, fmt.Sprint(step, " and ", k), i, m)
			crowd = max(crowd, len(i.Names))
		}
		check(t, step, image.All(api.Image{}, l...), i)
		if crowd < 5 {
			t.Errorf("step %d has %d files at most", step, crowd)
		}
	}
}

// wholly is all of an image with all spare room, in memory of its own.
func wholly(i api.Image) api.Image {
	out := files(spare.Whole(i.Names), spare.Whole(i.Nodes)...)
	for k := range out.Nodes {
		out.Nodes[k].C.L = spare.Whole(out.Nodes[k].C.L)
	}
	return out
}

// withRoom is i with spare room in each of its lists, in which there is more, and such as may not be.
func withRoom(i api.Image) api.Image {
	i.Names = spare.Behind(i.Names, name("h", 11), name("a", 1), name("", 0), name("z", 12))
	i.Nodes = spare.Behind(i.Nodes, bare(11), node(1, content(-1, ext(0))), bare(0), node(12, content(3, spare.Behind([]api.Ext{ext(0)}, ext(1))...)))
	for k := range i.Nodes {
		i.Nodes[k].C.L = spare.Behind(i.Nodes[k].C.L, ext(10, 0), ext(0, 9), ext(-1, 9), ext(11))
	}
	return i
}

// menu is changes of each kind for three, and such as leave it as it is.
func menu() []api.Op {
	return []api.Op{
		{}, {Kind: 8}, creating("c", 3), creating("a", 1), creating("g", 10), creating("b", 3), creating("c", 0),
		writing(9, 38, 1, 2, 3, 4), writing(2, 8, 1), writing(5, 0), writing(5, 0, 4), writing(9, -1, 1), writing(3, 0, 1),
		truncating(9, 12), truncating(2, 3), truncating(5, 80), truncating(2, -1), truncating(4, 1),
		allocating(9, 0, 90, false), allocating(5, 9, 1, true), allocating(5, 9, 0, true), allocating(7, 9, 1, true),
		punching(9, 32, 8), punching(2, 1, 1), punching(2, 1, 0), punching(8, 1, 1),
		renaming("b", "d"), renaming("f", "a"), renaming("d", "z"), renaming("b", "b"), renaming("c", "b"),
		removing("b"), removing("f"), removing("c"),
	}
}

// wanted is what is to come of a change of i.
func wanted(i api.Image, o api.Op) api.Image {
	if !may(i) {
		return i
	}
	return modelOf(i).then(o).image()
}

// some are images with blocks that may be, and that may not be; each call makes them anew.
func some() []api.Image {
	return []api.Image{three(), {}, many(16), {Names: three().Names, Nodes: three().Nodes[:2]}, {Nodes: three().Nodes}, files(three().Names, node(2, content(-1, ext(4, 4))), three().Nodes[1], three().Nodes[2])}
}

func TestWhatIsHandedInStays(t *testing.T) { // R2, R5
	for k := range some() {
		for j := range menu() {
			i, o := withRoom(some()[k]), menu()[j]
			o.B = spare.Behind(o.B, 91, 92, 93)
			was, wasB := wholly(i), spare.Whole(o.B)
			list := spare.Behind([]api.Op{o, o}, removing("b"), removing("d"))
			wasList := slices.Clone(list[:4])
			got, all := image.Apply(i, o), image.All(i, list...)
			check(t, o, got, wanted(some()[k], o))
			check(t, o, all, wanted(wanted(some()[k], o), o))
			image.Find(i, "d")
			image.Used(i)
			image.May(i)
			image.Same(i, i)
			c, _ := image.Get(i, 9)
			spare.Spoil(c.L, ext(77, 99))
			spare.Ruin(got)
			spare.Ruin(all)
			if !alike(wholly(i), was) || !slices.Equal(spare.Whole(o.B), wasB) {
				t.Fatalf("%v: what was handed in is changed", o)
			}
			for n, p := range list[:4] {
				if fmt.Sprint(p) != fmt.Sprint(wasList[n]) {
					t.Fatalf("%v: the list of changes is changed", o)
				}
			}
		}
	}
}

func TestSpareRoomIsNotRead(t *testing.T) { // R5
	i := withRoom(three())
	for _, s := range []string{"h", "a", "z", ""} {
		checkFind(t, i, s, 0, false)
	}
	for _, ino := range []int{0, 1, 11, 12} {
		checkGet(t, i, ino, api.Content{}, false)
	}
	checkUsed(t, i, 4)
	if !image.May(i) || !image.Same(i, three()) || !image.Same(three(), i) {
		t.Error(i)
	}
	l := spare.Behind([]api.Op{removing("b")}, removing("d"), removing("f"))
	check(t, "one change", image.All(i, l...), wanted(three(), removing("b")))
	check(t, "no change", image.All(i, l[:0]...), three())
	b := spare.Behind([]byte{4}, 5, 6, 7)
	check(t, "one byte", image.Apply(i, writing(5, 0, b...)), wanted(three(), writing(5, 0, 4)))
}

func TestWhatIsHandedInIsNotKept(t *testing.T) { // R2
	for k := range some() {
		for j := range menu() {
			i, o := withRoom(some()[k]), menu()[j]
			o.B = spare.Behind(o.B, 91, 92, 93)
			list := spare.Behind([]api.Op{o, o}, o)
			want := wanted(some()[k], o)
			got, all, none := image.Apply(i, o), image.All(i, list...), image.All(i)
			c, ok := image.Get(i, 9)
			spare.Ruin(i)
			spare.Spoil(o.B, 99)
			spare.Spoil(list, removing("b"))
			check(t, o, got, want)
			check(t, o, all, wanted(want, menu()[j]))
			check(t, o, none, some()[k])
			if n := modelOf(three()).in[9]; ok && (c.Size != n.Size || !slices.Equal(c.L, n.L)) {
				t.Errorf("what was got is now %v", c)
			}
		}
	}
}

func TestListsOfAnAnswerAreApart(t *testing.T) { // R2
	for _, i := range some() {
		for _, o := range menu() {
			for _, p := range menu() {
				if !spare.Apart(image.All(i, o, p)) {
					t.Fatalf("%v and %v: two lists share memory", o, p)
				}
			}
		}
	}
}

func TestAnswersAreNew(t *testing.T) { // R2
	for k := range some() {
		i := some()[k]
		for _, o := range menu() {
			for _, p := range menu() {
				wantA, wantB := wanted(some()[k], o), wanted(some()[k], p)
				wantD := wanted(wantA, p)
				a, b := image.Apply(i, o), image.Apply(i, p)
				d, e := image.Apply(a, p), image.All(a)
				spare.Ruin(a)
				check(t, "the second one", b, wantB)
				check(t, "one of another", d, wantD)
				check(t, "one of no change", e, wantA)
				spare.Ruin(e)
				check(t, "the second one, again", b, wantB)
				spare.Ruin(b)
				check(t, "one of another, again", d, wantD)
				spare.Ruin(d)
				if !alike(i, some()[k]) {
					t.Fatalf("%v and %v: what was handed in changes with an answer", o, p)
				}
			}
		}
	}
	i := three()
	a, _ := image.Get(i, 9)
	b, _ := image.Get(i, 9)
	spare.Spoil(a.L, ext(77, 99))
	if !slices.Equal(b.L, three().Nodes[2].C.L) || !alike(i, three()) {
		t.Errorf("%v and %v change with what was got", b, i)
	}
}

func TestNilIsEmpty(t *testing.T) { // R4
	empties := fine()[:4]
	for _, a := range empties {
		for _, b := range empties {
			if !image.Same(a, b) {
				t.Errorf("%v and %v are not the same", a, b)
			}
		}
		for _, o := range menu() {
			check(t, o, image.Apply(a, o), wanted(api.Image{}, o))
			check(t, o, image.All(a, []api.Op{}...), api.Image{})
		}
		checkFind(t, a, "a", 0, false)
		checkGet(t, a, 1, api.Content{}, false)
		checkUsed(t, a, 0)
	}
	x, y := one("a", 1), files(names(name("a", 1)), node(1, api.Content{L: []api.Ext{}}))
	if !image.Same(x, y) || !image.Same(y, x) {
		t.Error("no blocks are not the same as none")
	}
	for _, i := range []api.Image{x, y} {
		check(t, "no bytes", image.Apply(i, api.Op{Kind: 2, Ino: 1, Pos: 9, B: nil}), x)
		check(t, "no bytes", image.Apply(i, api.Op{Kind: 2, Ino: 1, Pos: 9, B: []byte{}}), x)
		check(t, "no changes", image.All(i, nil...), x)
		checkGet(t, i, 1, api.Content{}, true)
	}
}
