package store_test

import (
	"bytes"
	"fmt"
	"math"
	"math/bits"
	"slices"
	"strings"
	"testing"

	"salvor/api"
	"salvor/extent"
	"salvor/image"
	"salvor/spare"
	"salvor/store"
)

const (
	size = 1 << 40  // the greatest size of a file
	most = 4096     // the most bytes of one write, and the most room
	wide = 4096 * 8 // the most places of one Allocate
)

// caller is a store, or a model of one.
type caller interface {
	Now() api.Image
	Kept() api.Image
	Pending() int
	Free() int
	Off() bool
	Arm(n int)
	Restart(keep []bool)
	Open(name string, make bool) (int, api.Code)
	Size(ino int) (int, api.Code)
	Read(ino, pos, n int) ([]byte, api.Code)
	Data(ino, pos int) (int, api.Code)
	Hole(ino, pos int) (int, api.Code)
	Write(ino, pos int, b []byte) (int, api.Code)
	Truncate(ino, size int) api.Code
	Allocate(ino, pos, n int, keep bool) api.Code
	Punch(ino, pos, n int) api.Code
	Rename(name, to string) api.Code
	Remove(name string) api.Code
	Sync(inos ...int) api.Code
}

// call is a call, and what it answers in words.
type call struct {
	text string
	do   func(c caller) string
}

// codes are the codes that a store knows.
var codes = map[api.Code]string{0: "OK", 3: "NoFile", 4: "NoSpace", 5: "Range", 8: "Off"}

func word(c api.Code) string {
	if s, ok := codes[c]; ok {
		return s
	}
	return fmt.Sprintf("code %d", c)
}

// number is a number and a code, in words.
func number(n int, c api.Code) string { return fmt.Sprint(n, " ", word(c)) }

func opening(s string, make bool) call {
	return call{fmt.Sprintf("Open(%q, %v)", s, make), func(c caller) string { return number(c.Open(s, make)) }}
}

// creating is opening a file that is made, if there is none.
func creating(s string) call { return opening(s, true) }

func sizing(ino int) call {
	return call{fmt.Sprintf("Size(%d)", ino), func(c caller) string { return number(c.Size(ino)) }}
}

func reading(ino, pos, n int) call {
	return call{fmt.Sprintf("Read(%d, %d, %d)", ino, pos, n), func(c caller) string {
		b, code := c.Read(ino, pos, n)
		return fmt.Sprint(b, " ", word(code))
	}}
}

func data(ino, pos int) call {
	return call{fmt.Sprintf("Data(%d, %d)", ino, pos), func(c caller) string { return number(c.Data(ino, pos)) }}
}

func hole(ino, pos int) call {
	return call{fmt.Sprintf("Hole(%d, %d)", ino, pos), func(c caller) string { return number(c.Hole(ino, pos)) }}
}

func writing(ino, pos int, b ...byte) call {
	text := fmt.Sprintf("Write(%d, %d, %v)", ino, pos, b)
	if len(b) > 40 {
		text = fmt.Sprintf("Write(%d, %d, %d bytes)", ino, pos, len(b))
	}
	return call{text, func(c caller) string { return number(c.Write(ino, pos, b)) }}
}

func truncating(ino, size int) call {
	return call{fmt.Sprintf("Truncate(%d, %d)", ino, size), func(c caller) string { return word(c.Truncate(ino, size)) }}
}

func allocating(ino, pos, n int, keep bool) call {
	return call{fmt.Sprintf("Allocate(%d, %d, %d, %v)", ino, pos, n, keep), func(c caller) string { return word(c.Allocate(ino, pos, n, keep)) }}
}

func punching(ino, pos, n int) call {
	return call{fmt.Sprintf("Punch(%d, %d, %d)", ino, pos, n), func(c caller) string { return word(c.Punch(ino, pos, n)) }}
}

func renaming(s, to string) call {
	return call{fmt.Sprintf("Rename(%q, %q)", s, to), func(c caller) string { return word(c.Rename(s, to)) }}
}

func removing(s string) call {
	return call{fmt.Sprintf("Remove(%q)", s), func(c caller) string { return word(c.Remove(s)) }}
}

func syncing(inos ...int) call {
	return call{fmt.Sprintf("Sync(%v)", inos), func(c caller) string { return word(c.Sync(inos...)) }}
}

func arming(n int) call {
	return call{fmt.Sprintf("Arm(%d)", n), func(c caller) string { c.Arm(n); return "" }}
}

func restarting(keep ...bool) call {
	return call{fmt.Sprintf("Restart(%v)", keep), func(c caller) string { c.Restart(keep); return "" }}
}

var (
	free    = call{"Free()", func(c caller) string { return fmt.Sprint(c.Free()) }}
	pending = call{"Pending()", func(c caller) string { return fmt.Sprint(c.Pending()) }}
	isOff   = call{"Off()", func(c caller) string { return fmt.Sprint(c.Off()) }}
	now     = call{"Now()", func(c caller) string { return show(c.Now()) }}
	kept    = call{"Kept()", func(c caller) string { return show(c.Kept()) }}
)

// show is an image in words: each file's name, number and size, and its blocks, each of them less the noughts at its end.
func show(i api.Image) string {
	var l []string
	for _, n := range i.Names {
		c, _ := image.Get(i, n.Ino)
		s := fmt.Sprintf("%s %d: %d", n.Name, n.Ino, c.Size)
		for _, e := range c.L {
			s += fmt.Sprintf(" %d=%v", e.No, bytes.TrimRight(e.B[:], "\x00"))
		}
		l = append(l, s)
	}
	if len(i.Nodes) != len(l) {
		return fmt.Sprint(i)
	}
	return strings.Join(l, "; ")
}

// unlike tells in what a store is unlike its model; the empty text, if in nothing.
func unlike(s *store.Store, m *model) string {
	if a, b := s.Now(), m.Now(); !image.Same(a, b) || !image.May(a) {
		return fmt.Sprintf("Now: %s; want %s", show(a), show(b))
	}
	if a, b := s.Kept(), m.Kept(); !image.Same(a, b) || !image.May(a) {
		return fmt.Sprintf("Kept: %s; want %s", show(a), show(b))
	}
	if s.Pending() != m.Pending() || s.Free() != m.Free() || s.Off() != m.Off() {
		return fmt.Sprintf("Pending %d, Free %d, Off %v; want %d, %d, %v", s.Pending(), s.Free(), s.Off(), m.Pending(), m.Free(), m.Off())
	}
	return ""
}

// pair is a store and its model, and what was asked of both.
type pair struct {
	t    *testing.T
	s    *store.Store
	m    *model
	done []string
}

func start(t *testing.T, room int, l ...call) *pair {
	t.Helper()
	p := &pair{t: t, s: store.New(room), m: newModel(room), done: []string{fmt.Sprintf("New(%d)", room)}}
	p.same(l...)
	return p
}

// told is what has been asked, in words.
func (p *pair) told() string { return strings.Join(p.done, ", ") }

// ask makes one call of both, and holds one answer against the other.
func (p *pair) ask(c call) string {
	p.t.Helper()
	p.done = append(p.done, c.text)
	got, want := c.do(p.s), c.do(p.m)
	if got != want {
		p.t.Fatalf("%s: %q; want %q", p.told(), got, want)
	}
	return got
}

// same makes these calls of both, and holds all that can be seen of one against the other behind each.
func (p *pair) same(l ...call) {
	p.t.Helper()
	for _, c := range l {
		p.ask(c)
		p.check()
	}
}

func (p *pair) check() {
	p.t.Helper()
	if why := unlike(p.s, p.m); why != "" {
		p.t.Fatalf("%s: %s", p.told(), why)
	}
}

// line is a call, and what it is to answer.
type line struct {
	call
	want string
}

// play makes these calls, and holds the answers against what is wanted, which is written by hand, and against the model.
func (p *pair) play(l ...line) {
	p.t.Helper()
	for _, q := range l {
		if got := p.ask(q.call); got != q.want {
			p.t.Fatalf("%s: %q; want %q, by hand", p.told(), got, q.want)
		}
		p.check()
	}
}

func TestRunsOfTheChapter(t *testing.T) { // P13.1 to P13.5
	start(t, 9).play(
		line{creating("a"), "1 OK"},
		line{writing(1, 0, 1), "1 OK"},
		line{syncing(1), "OK"},
		line{writing(1, 1, 2), "1 OK"},
		line{reading(1, 0, 9), "[1 2] OK"},
		line{restarting(), ""},
		line{reading(1, 0, 9), "[1] OK"},
		line{now, "a 1: 1 0=[1]"},
	)
}

func TestNew(t *testing.T) { // P13.1
	for room, want := range map[int]int{
		math.MinInt: 0, -1 << 32: 0, -4096: 0, -1: 0, 0: 0, 1: 1, 2: 2, 3: 3, 7: 7, 8: 8, 9: 9, 100: 100, 512: 512, most - 1: most - 1, most: most, most + 1: most,
		2 * most: most, 1 << 20: most, 1 << 32: most, 1<<32 + 1: most, 1 << 62: most, math.MaxInt: most,
	} {
		p := start(t, room)
		p.play(
			line{free, fmt.Sprint(want)}, line{pending, "0"}, line{isOff, "false"}, line{now, ""}, line{kept, ""},
			line{creating("a"), "1 OK"}, line{free, fmt.Sprint(want)}, line{pending, "1"}, line{isOff, "false"},
		)
		// As many blocks as that there is room for, and not one more.
		if want > 0 {
			p.play(line{allocating(1, 0, want*8, true), "OK"}, line{allocating(1, 8, want*8, false), "NoSpace"})
		}
		p.play(line{free, "0"}, line{allocating(1, want*8, 1, true), "NoSpace"}, line{writing(1, want*8, 1), "0 NoSpace"})
		p.same(restarting(), free)
		p.play(line{free, fmt.Sprint(want)}, line{now, ""})
	}
}

func TestStoresAreApart(t *testing.T) { // P13.1
	a, b := start(t, 2), start(t, 3)
	a.play(line{creating("x"), "1 OK"}, line{writing(1, 0, 1), "1 OK"}, line{arming(0), ""})
	b.play(line{free, "3"}, line{now, ""}, line{creating("y"), "1 OK"}, line{syncing(), "OK"}, line{kept, "y 1: 0"})
	a.play(line{syncing(), "Off"}, line{kept, ""}, line{now, "x 1: 1 0=[1]"})
	b.play(line{syncing(), "OK"}, line{isOff, "false"}, line{creating("z"), "2 OK"})
}

func TestFree(t *testing.T) { // P13.1
	p := start(t, 2)
	p.play(
		line{creating("a"), "1 OK"}, line{creating("b"), "2 OK"}, line{free, "2"},
		line{writing(1, 3, 1), "1 OK"}, line{free, "1"},
		line{writing(1, 4, 2), "1 OK"}, line{free, "1"},
		line{writing(2, 0, 3), "1 OK"}, line{free, "0"},
		line{truncating(1, 100), "OK"}, line{free, "0"},
		line{truncating(1, 0), "OK"}, line{free, "1"},
		line{allocating(1, 80, 1, true), "OK"}, line{free, "0"}, line{sizing(1), "0 OK"},
		line{punching(1, 80, 7), "OK"}, line{free, "0"},
		line{punching(1, 80, 8), "OK"}, line{free, "1"},
		line{syncing(1, 2), "OK"}, line{free, "1"},
		line{removing("b"), "OK"}, line{free, "2"},
		line{restarting(), ""}, line{free, "1"},
		line{writing(1, 0, 1), "1 OK"}, line{free, "0"},
		line{renaming("a", "b"), "OK"}, line{free, "1"}, line{now, "b 1: 1 0=[1]"},
	)
}

// crowded is a store with more blocks than it has room for: 4, in the file 1, all kept; it has room for 2.
func crowded(t *testing.T) *pair {
	t.Helper()
	p := start(t, 2)
	p.play(
		line{creating("a"), "1 OK"}, line{syncing(), "OK"},
		line{writing(1, 0, 1, 2, 3, 4, 5, 6, 7, 8, 9), "9 OK"},
		line{punching(1, 0, 16), "OK"},
		line{writing(1, 16, 1, 2, 3, 4, 5, 6, 7, 8, 9), "9 OK"}, line{free, "0"}, line{pending, "5"},
		line{restarting(true, true, false, true, true), ""},
		line{free, "0"}, line{now, "a 1: 25 0=[1 2 3 4 5 6 7 8] 1=[9] 2=[1 2 3 4 5 6 7 8] 3=[9]"},
	)
	return p
}

func TestFreeOfMoreThanTheRoom(t *testing.T) { // P13.1, P13.4
	crowded(t).play(
		line{writing(1, 0, 1, 1, 1, 1, 1, 1, 1, 1, 1), "9 OK"}, line{writing(1, 31, 7, 7), "1 NoSpace"},
		line{allocating(1, 0, 32, false), "OK"}, line{allocating(1, 0, 33, true), "NoSpace"},
		line{punching(1, 0, 8), "OK"}, line{free, "0"}, line{writing(1, 0, 5), "0 NoSpace"},
		line{punching(1, 8, 8), "OK"}, line{free, "0"}, line{allocating(1, 8, 8, true), "NoSpace"},
		line{punching(1, 16, 8), "OK"}, line{free, "1"}, line{writing(1, 0, 5), "1 OK"}, line{free, "0"},
	)
	crowded(t).play(line{creating("b"), "2 OK"}, line{removing("a"), "OK"}, line{free, "2"}, line{restarting(), ""}, line{free, "0"})
	crowded(t).play(line{truncating(1, 8), "OK"}, line{free, "1"})
}

// ready is a store with the files a, b and c, numbers 1, 2 and 3, of which a and b have a block, all of that kept.
func ready(t *testing.T, room int) *pair {
	t.Helper()
	return start(t, room, creating("a"), creating("b"), creating("c"), writing(1, 0, 1, 2), writing(2, 8, 3), syncing(1, 2, 3))
}

// deeds are a deed of each kind, each of which does something to what ready makes.
func deeds() []call {
	return []call{
		creating("d"), writing(1, 1, 9), writing(3, 0, 5), truncating(1, 1), truncating(1, 9), allocating(1, 8, 1, true), allocating(2, 0, 99, false),
		punching(1, 0, 1), punching(2, 8, 8), renaming("a", "d"), renaming("a", "b"), removing("b"), syncing(), syncing(1, 2, 3),
	}
}

func TestDeeds(t *testing.T) { // P13.2
	for _, q := range []struct {
		call
		want, now string
		changes   int
	}{
		{creating("d"), "4 OK", "a 1: 2 0=[1 2]; b 2: 9 1=[3]; c 3: 0; d 4: 0", 1},
		{writing(1, 1, 9), "1 OK", "a 1: 2 0=[1 9]; b 2: 9 1=[3]; c 3: 0", 1},
		{writing(3, 6, 5, 6, 7), "3 OK", "a 1: 2 0=[1 2]; b 2: 9 1=[3]; c 3: 9 0=[0 0 0 0 0 0 5 6] 1=[7]", 2},
		{truncating(1, 1), "OK", "a 1: 1 0=[1]; b 2: 9 1=[3]; c 3: 0", 1},
		{truncating(3, 70), "OK", "a 1: 2 0=[1 2]; b 2: 9 1=[3]; c 3: 70", 1},
		{allocating(1, 8, 1, true), "OK", "a 1: 2 0=[1 2] 1=[]; b 2: 9 1=[3]; c 3: 0", 1},
		{allocating(1, 8, 1, false), "OK", "a 1: 9 0=[1 2] 1=[]; b 2: 9 1=[3]; c 3: 0", 1},
		{punching(1, 0, 1), "OK", "a 1: 2 0=[0 2]; b 2: 9 1=[3]; c 3: 0", 1},
		{punching(2, 0, 16), "OK", "a 1: 2 0=[1 2]; b 2: 9; c 3: 0", 1},
		{renaming("a", "d"), "OK", "b 2: 9 1=[3]; c 3: 0; d 1: 2 0=[1 2]", 1},
		{renaming("a", "b"), "OK", "b 1: 2 0=[1 2]; c 3: 0", 1},
		{removing("b"), "OK", "a 1: 2 0=[1 2]; c 3: 0", 1},
		// What changes nothing is a change still.
		{writing(1, 0, 1), "1 OK", "a 1: 2 0=[1 2]; b 2: 9 1=[3]; c 3: 0", 1},
		{truncating(1, 2), "OK", "a 1: 2 0=[1 2]; b 2: 9 1=[3]; c 3: 0", 1},
		{allocating(1, 0, 2, false), "OK", "a 1: 2 0=[1 2]; b 2: 9 1=[3]; c 3: 0", 1},
		{punching(3, 0, 9), "OK", "a 1: 2 0=[1 2]; b 2: 9 1=[3]; c 3: 0", 1},
		{syncing(1, 2, 3), "OK", "a 1: 2 0=[1 2]; b 2: 9 1=[3]; c 3: 0", 0},
	} {
		p := ready(t, 99)
		was := "a 1: 2 0=[1 2]; b 2: 9 1=[3]; c 3: 0"
		p.play(line{pending, "0"}, line{now, was}, line{kept, was}, line{q.call, q.want}, line{now, q.now}, line{kept, was}, line{pending, fmt.Sprint(q.changes)})
		p.play(line{syncing(1, 2, 3, 4), "OK"}, line{kept, q.now})
	}
}

// refusals are calls that are refused, and such as do nothing, behind ready and the making of 13 files more, with no room.
func refusals() []line {
	return []line{
		{opening("z", false), "0 NoFile"}, {opening("A", true), "0 Range"}, {opening("z", true), "0 NoSpace"}, {opening("a", true), "1 OK"}, {opening("a", false), "1 OK"},
		{sizing(1), "2 OK"}, {sizing(99), "0 NoFile"},
		{reading(1, 0, 9), "[1 2] OK"}, {reading(99, 0, 1), "[] NoFile"}, {reading(1, -1, 1), "[] Range"},
		{data(1, 0), "0 OK"}, {data(1, 2), "0 Range"}, {data(99, 0), "0 NoFile"},
		{hole(1, 0), "2 OK"}, {hole(1, 2), "0 Range"}, {hole(99, 0), "0 NoFile"},
		{writing(1, 0), "0 OK"}, {writing(1, size), "0 OK"}, {writing(99, 0, 1), "0 NoFile"}, {writing(1, -1, 1), "0 Range"}, {writing(1, 8, 1), "0 NoSpace"}, {writing(99, 0), "0 NoFile"},
		{truncating(1, -1), "Range"}, {truncating(99, 1), "NoFile"},
		{allocating(1, 0, 0, true), "Range"}, {allocating(99, 0, 1, true), "NoFile"}, {allocating(1, 0, 9, true), "NoSpace"},
		{punching(1, 0, 0), "Range"}, {punching(99, 0, 1), "NoFile"},
		{renaming("a", "a"), "OK"}, {renaming("z", "z"), "NoFile"}, {renaming("z", "a"), "NoFile"}, {renaming("a", "A"), "Range"}, {renaming("A", "a"), "Range"},
		{removing("z"), "NoFile"}, {removing("A"), "Range"},
		{free, "0"}, {isOff, "false"},
	}
}

// full is what ready makes, with as many files as there may be, and no room; all of that is kept.
func full(t *testing.T) *pair {
	t.Helper()
	p := ready(t, 2)
	for k := range 13 {
		p.same(creating(fmt.Sprint("f", k)))
	}
	p.same(syncing())
	return p
}

// still are deeds that change nothing of what full makes.
func still() []line {
	return []line{{writing(1, 0, 1), "1 OK"}, {syncing(1), "OK"}, {truncating(1, 2), "OK"}, {allocating(1, 0, 2, false), "OK"}, {punching(3, 0, 9), "OK"}, {syncing(), "OK"}}
}

func TestWhatIsNoDeed(t *testing.T) { // P13.2, P13.3, P13.4
	p := full(t)
	was := show(p.s.Now())
	p.play(refusals()...)
	p.play(line{now, was}, line{kept, was}, line{pending, "0"})
	for n := range 6 {
		p := full(t)
		p.same(arming(n))
		p.play(refusals()...)
		for _, q := range still()[:n] {
			p.play(q)
			p.play(refusals()...)
		}
		p.play(line{call: still()[n].call, want: lost(still()[n].want)}, line{isOff, "true"}, line{now, was})
	}
}

// lost is what is answered in the stead of an answer when the power goes.
func lost(want string) string {
	switch {
	case strings.HasPrefix(want, "["):
		return "[] Off"
	case strings.Contains(want, " "):
		return "0 Off"
	}
	return "Off"
}

func TestArm(t *testing.T) { // P13.2
	// As many deeds as are armed, of all kinds, whichever comes first, and not one more.
	for at := range deeds() {
		l := slices.Concat(deeds()[at:], deeds()[:at])
		for n := range 6 {
			p := ready(t, 99)
			p.same(arming(n))
			done := 0
			for _, d := range l {
				was, wait := show(p.s.Now()), p.s.Pending()
				got := p.ask(d)
				p.check()
				if strings.HasSuffix(got, "Off") {
					if done != n || !p.s.Off() || show(p.s.Now()) != was || p.s.Pending() != wait || got != "Off" && got != "0 Off" {
						t.Fatalf("%s: %s behind %d deeds", p.told(), got, done)
					}
					break
				}
				if p.s.Off() {
					t.Fatalf("%s: off behind %d deeds", p.told(), done)
				}
				// What a deed ahead has done makes some of the others refused, and a file be there already.
				found := strings.HasPrefix(d.text, "Open") && got != "4 OK"
				if strings.HasSuffix(got, "OK") && !found {
					done++
				}
			}
			if done != n || !p.s.Off() {
				t.Errorf("%s: %d deeds, off: %v; want %d", p.told(), done, p.s.Off(), n)
			}
		}
	}
}

func TestArmEachKind(t *testing.T) { // P13.2
	for k, d := range deeds() {
		// The power goes ahead of the deed.
		p := ready(t, 99)
		was := show(p.s.Now())
		p.same(arming(0))
		if p.s.Off() {
			t.Fatalf("%d: off without a deed", k)
		}
		if got := p.ask(d); got != "Off" && got != "0 Off" {
			t.Errorf("%s: %s", d.text, got)
		}
		p.play(line{isOff, "true"}, line{now, was}, line{kept, was}, line{pending, "0"})
		// A deed of its kind takes one of those that are armed.
		p = ready(t, 99)
		p.same(arming(1))
		if got := p.ask(d); !strings.HasSuffix(got, "OK") {
			t.Errorf("%s: %s", d.text, got)
		}
		p.play(line{isOff, "false"}, line{syncing(), "Off"}, line{isOff, "true"})
		// Without, there is no end of them.
		p = ready(t, 99)
		for range 40 {
			p.ask(d)
		}
		p.play(line{isOff, "false"})
	}
}

func TestArmAnew(t *testing.T) { // P13.2
	sync := line{syncing(), "OK"}
	gone := line{syncing(), "Off"}
	arm := func(n int) line { return line{arming(n), ""} }
	for _, below := range []int{-1, -2, -5, math.MinInt, math.MinInt + 1, -1 << 32} {
		start(t, 1).play(arm(below), sync, sync, sync, line{isOff, "false"}, arm(1), sync, arm(below), sync, sync, sync, line{isOff, "false"}, arm(0), gone)
	}
	start(t, 1).play(arm(0), arm(1), sync, gone)
	start(t, 1).play(arm(5), arm(1), sync, gone)
	start(t, 1).play(arm(5), sync, sync, arm(2), sync, sync, gone, gone)
	start(t, 1).play(arm(1), sync, arm(1), sync, arm(3), sync, sync, sync, gone)
	start(t, 1).play(arm(3), arm(0), gone)
	start(t, 1).play(arm(3), arm(3), sync, sync, sync, gone)
	start(t, 1).play(arm(1), arm(math.MaxInt), sync, sync, sync, line{isOff, "false"})
	start(t, 1).play(arm(1<<32), sync, sync, arm(1<<32+1), sync, sync, line{isOff, "false"})
	// While the power is gone nothing that is armed brings it back, nor lasts.
	start(t, 1).play(arm(0), gone, arm(5), gone, line{isOff, "true"}, arm(-1), gone, line{isOff, "true"}, line{restarting(), ""}, sync, sync)
	start(t, 1).play(arm(0), gone, arm(0), line{restarting(), ""}, sync, sync)
	start(t, 1).play(arm(1), line{restarting(), ""}, sync, sync, sync)
	start(t, 1).play(arm(0), line{restarting(), ""}, sync, sync, sync)
}

func TestPowerInTheMidstOfAWrite(t *testing.T) { // P13.2, P13.4
	p := start(t, 9)
	p.play(
		line{creating("a"), "1 OK"}, line{arming(2), ""}, line{writing(1, 5, make([]byte, 30)...), "11 Off"},
		line{isOff, "true"}, line{pending, "3"}, line{now, "a 1: 16 0=[] 1=[]"}, line{kept, ""}, line{free, "7"}, line{writing(1, 5, 1), "0 Off"},
	)
	for pos := range 9 {
		for n := range 40 {
			parts := 0
			if n > 0 {
				parts = (pos+n-1)/8 - pos/8 + 1
			}
			for armed := range 7 {
				p := start(t, 9, creating("a"), arming(armed))
				b := bytes.Repeat([]byte{7}, n)
				want := number(n, api.OK)
				if armed < parts {
					want = number(max(0, armed*8-pos%8), api.Off)
				}
				p.play(line{writing(1, pos, b...), want}, line{isOff, fmt.Sprint(armed < parts)}, line{pending, fmt.Sprint(1 + min(armed, parts))})
			}
		}
	}
	// The power or the room: that which ends first.
	for armed := range 6 {
		for room := range 6 {
			p := start(t, room, creating("a"), arming(armed))
			want := "32 OK"
			switch {
			case room < 4 && armed >= room:
				want = number(room*8, api.NoSpace)
			case armed < 4:
				want = number(armed*8, api.Off)
			}
			p.play(line{writing(1, 0, make([]byte, 32)...), want}, line{isOff, fmt.Sprint(strings.HasSuffix(want, "Off"))})
		}
	}
}

func TestOff(t *testing.T) { // P13.2, P13.3
	p := full(t)
	p.same(truncating(1, 9), arming(0), syncing())
	was, wasKept := show(p.s.Now()), show(p.s.Kept())
	calls := []line{{syncing(), "OK"}, {syncing(1, 2, 3), "OK"}, {syncing(99), "OK"}, {creating("d"), "0 NoSpace"}}
	calls = append(calls, refusals()[:len(refusals())-2]...)
	calls = append(calls, still()...)
	for _, d := range deeds() {
		calls = append(calls, line{d, ""})
	}
	for _, q := range calls {
		got := p.ask(q.call)
		if got != "Off" && got != "0 Off" && got != "[] Off" || q.want != "" && got != lost(q.want) {
			t.Errorf("%s: %s", q.text, got)
		}
		p.check()
	}
	p.play(line{isOff, "true"}, line{now, was}, line{kept, wasKept}, line{pending, "1"}, line{free, "0"}, line{arming(9), ""}, line{syncing(), "Off"})
	p.play(line{restarting(), ""}, line{isOff, "false"}, line{now, wasKept}, line{kept, wasKept}, line{pending, "0"}, line{free, "0"})
	p.play(refusals()...)
}

func TestOpen(t *testing.T) { // P13.3
	start(t, 0).play(
		line{opening("a", false), "0 NoFile"}, line{opening("-a", false), "0 Range"}, line{pending, "0"},
		line{opening("b", true), "1 OK"}, line{opening("a", true), "2 OK"}, line{pending, "2"},
		line{opening("a", true), "2 OK"}, line{opening("a", false), "2 OK"}, line{opening("b", true), "1 OK"}, line{opening("b", false), "1 OK"}, line{pending, "2"},
		line{now, "a 2: 0; b 1: 0"}, line{kept, ""}, line{opening("c", false), "0 NoFile"}, line{now, "a 2: 0; b 1: 0"},
	)
	for _, s := range []string{"", "-", "-a", "A", "a b", "a/b", "a\n", "\xff", "\u00e9", strings.Repeat("a", 21), strings.Repeat("-", 20)} {
		for _, p := range []*pair{start(t, 9), full(t)} {
			p.play(line{opening(s, true), "0 Range"}, line{opening(s, false), "0 Range"}, line{pending, "0"})
		}
	}
	for _, s := range []string{".", "_", "0", "a-", "new.map_1-x", strings.Repeat("a", 20)} {
		start(t, 0).play(line{opening(s, false), "0 NoFile"}, line{opening(s, true), "1 OK"}, line{opening(s, false), "1 OK"})
	}
}

func TestOpenOfTheMost(t *testing.T) { // P13.3
	p := start(t, 0)
	for k := range 16 {
		p.play(line{creating(fmt.Sprintf("f%02d", k)), fmt.Sprintf("%d OK", k+1)})
	}
	p.play(line{creating("a"), "0 NoSpace"}, line{creating("z"), "0 NoSpace"}, line{opening("z", false), "0 NoFile"}, line{creating("f15"), "16 OK"}, line{creating("f00"), "1 OK"}, line{creating("Z"), "0 Range"}, line{pending, "16"})
	// Names count, not what is kept of them.
	p.play(line{removing("f03"), "OK"}, line{creating("z"), "17 OK"}, line{creating("y"), "0 NoSpace"}, line{renaming("f04", "f05"), "OK"}, line{creating("y"), "18 OK"}, line{creating("x"), "0 NoSpace"})
	p.play(line{renaming("f06", "x"), "OK"}, line{creating("f06"), "0 NoSpace"}, line{syncing(), "OK"}, line{creating("f06"), "0 NoSpace"}, line{removing("x"), "OK"}, line{restarting(), ""}, line{creating("f06"), "0 NoSpace"})
	p.play(line{removing("x"), "OK"}, line{restarting(true), ""}, line{creating("f06"), "19 OK"})
}

func TestNoNumberTwice(t *testing.T) { // P13.3
	start(t, 9).play(
		line{creating("a"), "1 OK"}, line{removing("a"), "OK"}, line{creating("a"), "2 OK"}, line{removing("a"), "OK"}, line{syncing(), "OK"},
		line{creating("a"), "3 OK"}, line{creating("b"), "4 OK"}, line{renaming("a", "b"), "OK"}, line{creating("a"), "5 OK"}, line{opening("b", false), "3 OK"},
		line{restarting(), ""}, line{now, ""}, line{creating("c"), "6 OK"}, line{restarting(true), ""}, line{now, "c 6: 0"}, line{creating("d"), "7 OK"},
		line{restarting(false, true), ""}, line{creating("d"), "8 OK"}, line{restarting(), ""}, line{restarting(), ""}, line{creating("d"), "9 OK"},
	)
	// One that is not made takes none.
	start(t, 9).play(
		line{opening("a", false), "0 NoFile"}, line{creating("A"), "0 Range"}, line{arming(0), ""}, line{creating("a"), "0 Off"}, line{creating("a"), "0 Off"},
		line{restarting(), ""}, line{creating("b"), "1 OK"}, line{creating("b"), "1 OK"}, line{creating("c"), "2 OK"},
	)
	p := full(t)
	p.play(line{creating("x"), "0 NoSpace"}, line{creating("x"), "0 NoSpace"}, line{removing("c"), "OK"}, line{creating("x"), "17 OK"})
	// However many they are.
	p = start(t, 0)
	for k := range 3000 {
		p.ask(creating("a"))
		if k%7 == 0 {
			p.ask(restarting(k%2 == 0))
		}
		p.ask(removing("a"))
	}
	p.play(line{creating("b"), "3001 OK"})
}

// places are such as can be, and can't.
var places = []int{math.MinInt, -1 << 62, -1 << 32, -9, -8, -1, 0, 1, 2, 7, 8, 9, 15, 16, 17, 23, 24, 25, 31, 32, 39, 40, 41, 100, 4095, 4096, 4097, wide - 1, wide, wide + 1, 1 << 32, size - 17, size - 16, size - 9, size - 8, size - 7, size - 1, size, size + 1, 1 << 41, 1 << 62, 1<<62 + 1, math.MaxInt - 1, math.MaxInt}

// holed is a file a, number 1, of 35 bytes with blocks 1, 2, 4 and, behind its size, 6, a file b of 4100 bytes, number 2, that is a hole, and one, c, without bytes.
func holed(t *testing.T, room int) *pair {
	t.Helper()
	p := start(t, room)
	p.play(
		line{creating("a"), "1 OK"}, line{creating("b"), "2 OK"}, line{creating("c"), "3 OK"},
		line{writing(1, 10, 1, 2, 3, 4, 5, 6, 7, 8), "8 OK"}, line{writing(1, 33, 9, 8), "2 OK"}, line{allocating(1, 48, 8, true), "OK"}, line{truncating(2, 4100), "OK"},
		line{now, "a 1: 35 1=[0 0 1 2 3 4 5 6] 2=[7 8] 4=[0 9 8] 6=[]; b 2: 4100; c 3: 0"},
	)
	return p
}

// strangers are numbers that no file of holed has.
var strangers = []int{math.MinInt, -1 << 62, -1, 0, 4, 5, 1<<32 + 1, 1 << 62, 1<<62 + 1, math.MaxInt}

func TestReads(t *testing.T) { // P13.3
	p := holed(t, 9)
	p.play(
		line{sizing(1), "35 OK"}, line{sizing(2), "4100 OK"}, line{sizing(3), "0 OK"},
		line{reading(1, 0, 100), "[0 0 0 0 0 0 0 0 0 0 1 2 3 4 5 6 7 8 0 0 0 0 0 0 0 0 0 0 0 0 0 0 0 9 8] OK"}, line{reading(1, 11, 3), "[2 3 4] OK"},
		line{reading(1, 34, 1), "[8] OK"}, line{reading(1, 34, 2), "[8] OK"}, line{reading(1, 35, 2), "[] OK"}, line{reading(1, 36, 4096), "[] OK"}, line{reading(1, 0, 0), "[] OK"}, line{reading(3, 0, 1), "[] OK"},
		line{reading(1, math.MaxInt, 4096), "[] OK"}, line{reading(1, -1, 0), "[] Range"}, line{reading(1, 0, -1), "[] Range"}, line{reading(1, 0, 4097), "[] Range"}, line{reading(1, 50, 4097), "[] Range"}, line{reading(3, 0, 4097), "[] Range"}, line{reading(4, -1, 4097), "[] NoFile"},
		line{data(1, 0), "8 OK"}, line{data(1, 9), "9 OK"}, line{data(1, 24), "32 OK"}, line{data(1, 34), "34 OK"}, line{data(1, 35), "0 Range"}, line{data(1, 48), "0 Range"}, line{data(1, -1), "0 Range"}, line{data(2, 0), "0 Range"}, line{data(3, 0), "0 Range"},
		line{hole(1, 0), "0 OK"}, line{hole(1, 8), "24 OK"}, line{hole(1, 32), "35 OK"}, line{hole(1, 35), "0 Range"}, line{hole(1, -1), "0 Range"}, line{hole(2, 4099), "4099 OK"}, line{hole(2, 4100), "0 Range"}, line{hole(3, 0), "0 Range"},
	)
	for n, want := range map[int]string{4095: "4095 OK", 4096: "4096 OK", 4097: "0 Range", 5000: "0 Range"} {
		if b, c := p.s.Read(2, 0, n); number(len(b), c) != want {
			t.Errorf("%d, %d of a Read of %d", len(b), c, n)
		}
	}
	for _, ino := range []int{1, 2, 3} {
		c, ok := image.Get(p.s.Now(), ino)
		if !ok {
			t.Fatal(ino)
		}
		for _, pos := range places {
			checkSeek(t, p, data(ino, pos), c, pos, extent.Data)
			checkSeek(t, p, hole(ino, pos), c, pos, extent.Hole)
			for _, n := range places {
				want := fmt.Sprint(extent.Read(c, pos, n), " OK")
				if pos < 0 || n < 0 || n > most {
					want = "[] Range"
				}
				if got := p.ask(reading(ino, pos, n)); got != want {
					t.Errorf("Read(%d, %d, %d): %s; want %s", ino, pos, n, got, want)
				}
			}
			p.done = nil
		}
	}
	p.check()
	// Nothing of that is a deed.
	p.play(line{pending, "8"})
}

func checkSeek(t *testing.T, p *pair, c call, in api.Content, pos int, to func(api.Content, int) (int, bool)) {
	t.Helper()
	want := "0 Range"
	if at, ok := to(in, pos); ok {
		want = number(at, api.OK)
	}
	if got := p.ask(c); got != want {
		t.Errorf("%s: %s; want %s", c.text, got, want)
	}
}

func TestNumbersOfNoFile(t *testing.T) { // P13.3, P13.4
	for _, gone := range []bool{false, true} {
		p := holed(t, 9)
		inos := strangers
		if gone {
			p.same(removing("a"), renaming("b", "c"), creating("d"), restarting(slices.Repeat([]bool{true}, 10)...))
			p.play(line{now, "c 2: 4100"})
			inos = append(slices.Clone(strangers), 1, 3)
		}
		for _, ino := range inos {
			for _, pos := range []int{0, -1, size + 1} {
				p.play(
					line{sizing(ino), "0 NoFile"}, line{reading(ino, pos, 1), "[] NoFile"}, line{reading(ino, pos, -1), "[] NoFile"}, line{data(ino, pos), "0 NoFile"}, line{hole(ino, pos), "0 NoFile"},
					line{writing(ino, pos, 1), "0 NoFile"}, line{writing(ino, pos), "0 NoFile"}, line{writing(ino, pos, make([]byte, 4097)...), "0 NoFile"}, line{truncating(ino, pos), "NoFile"},
					line{allocating(ino, pos, 1, true), "NoFile"}, line{allocating(ino, pos, 0, false), "NoFile"}, line{allocating(ino, pos, wide, false), "NoFile"}, line{punching(ino, pos, 1), "NoFile"}, line{punching(ino, pos, 0), "NoFile"},
				)
			}
		}
	}
}

func TestWrite(t *testing.T) { // P13.4
	p := holed(t, 6)
	p.play(
		line{free, "2"}, line{pending, "8"},
		line{writing(1, 12, 0, 0, 0, 0, 0, 0, 0), "7 OK"}, line{pending, "10"}, line{reading(1, 10, 8), "[1 2 0 0 0 0 0 0] OK"}, line{free, "2"},
		line{writing(1, 23, 1, 2), "2 OK"}, line{pending, "12"}, line{free, "1"},
		line{writing(1, 7, 5, 6), "2 OK"}, line{pending, "14"}, line{free, "0"},
		line{writing(1, 39, 4, 4), "1 NoSpace"}, line{sizing(1), "40 OK"}, line{pending, "15"}, line{reading(1, 32, 9), "[0 9 8 0 0 0 0 4] OK"},
		line{writing(1, 40, 4, 4), "0 NoSpace"}, line{pending, "15"},
		line{writing(1, 48, 4, 4), "2 OK"}, line{sizing(1), "50 OK"}, line{pending, "16"}, line{writing(1, 40, 0, 0, 0, 0, 0, 0, 0, 0, 0), "0 NoSpace"},
		line{writing(1, 0, make([]byte, 40)...), "40 OK"}, line{pending, "21"}, line{data(1, 0), "0 OK"}, line{hole(1, 0), "40 OK"},
		line{writing(1, 49, make([]byte, 4096)...), "7 NoSpace"}, line{sizing(1), "56 OK"}, line{pending, "22"},
		line{writing(1, 49, make([]byte, 4097)...), "0 Range"}, line{writing(2, 0), "0 OK"}, line{writing(2, 5000), "0 OK"}, line{sizing(2), "4100 OK"}, line{writing(2, size), "0 OK"}, line{writing(2, size+1), "0 Range"}, line{pending, "22"},
	)
	p = start(t, 4096)
	p.play(
		line{creating("a"), "1 OK"}, line{writing(1, size-1, 1), "1 OK"}, line{sizing(1), fmt.Sprintf("%d OK", size)}, line{writing(1, size-1, 1, 1), "0 Range"}, line{writing(1, size, 1), "0 Range"}, line{writing(1, size), "0 OK"},
		line{writing(1, size-9, 1, 2, 3, 4, 5, 6, 7, 8, 9), "9 OK"}, line{writing(1, size-9, 1, 2, 3, 4, 5, 6, 7, 8, 9, 10), "0 Range"}, line{pending, "4"}, line{free, "4094"},
		line{writing(1, 3, make([]byte, 4096)...), "4096 OK"}, line{pending, "517"}, line{free, "3581"},
		line{writing(1, 8, make([]byte, 4096)...), "4096 OK"}, line{pending, "1029"}, line{free, "3581"},
		line{writing(1, math.MaxInt, 1), "0 Range"}, line{writing(1, math.MinInt, 1), "0 Range"}, line{writing(1, -1), "0 Range"}, line{writing(1, -8, make([]byte, 16)...), "0 Range"},
	)
}

func TestWriteWithLittleRoom(t *testing.T) { // P13.4
	for mask := range 32 {
		for free := range 7 {
			for pos := 0; pos < 20; pos += 3 {
				for _, n := range []int{0, 1, 5, 8, 17, 30} {
					checkWrite(t, mask, free, pos, n)
				}
			}
		}
	}
}

// checkWrite writes n bytes over blocks of which those of the mask are there, with so much room, and looks at each place.
func checkWrite(t *testing.T, mask, room, pos, n int) {
	t.Helper()
	p := start(t, bits.OnesCount(uint(mask))+room)
	p.ask(creating("a"))
	for no := range 5 {
		if mask>>no&1 == 1 {
			p.ask(writing(1, no*8, 1, 2, 3, 4, 5, 6, 7, 8))
		}
	}
	p.check()
	want := make([]byte, 60)
	b, _ := p.s.Read(1, 0, 60)
	copy(want, b)
	was, end, changes := p.s.Pending(), len(b), 0
	full := api.OK
	done := 0
	for done < n && full == api.OK {
		no := (pos + done) / 8
		there := no < 5 && mask>>no&1 == 1
		if !there && room == 0 {
			full = api.NoSpace
			break
		}
		if !there {
			room--
		}
		changes++
		for done < n && (pos+done)/8 == no {
			want[pos+done] = byte(100 + done)
			done++
			end = max(end, pos+done)
		}
	}
	bytes := make([]byte, n)
	for k := range bytes {
		bytes[k] = byte(100 + k)
	}
	p.play(line{writing(1, pos, bytes...), number(done, full)}, line{pending, fmt.Sprint(was + changes)}, line{free, fmt.Sprint(room)}, line{reading(1, 0, 60), fmt.Sprint(want[:end], " OK")})
}

// refill is a call that changes what is in a file, and what extent makes of it.
type refill struct {
	call
	made func(c api.Content) (api.Content, bool)
}

// refills are all calls that change what is in the file ino by these numbers, but for Write.
func refills(ino, pos, n int) []refill {
	return []refill{
		{truncating(ino, pos), func(c api.Content) (api.Content, bool) { return extent.Truncate(c, pos) }},
		{allocating(ino, pos, n, false), func(c api.Content) (api.Content, bool) { return extent.Allocate(c, pos, n, false) }},
		{allocating(ino, pos, n, true), func(c api.Content) (api.Content, bool) { return extent.Allocate(c, pos, n, true) }},
		{punching(ino, pos, n), func(c api.Content) (api.Content, bool) { return extent.Punch(c, pos, n) }},
	}
}

func TestRefills(t *testing.T) { // P13.4
	seen := map[string]int{}
	for _, room := range []int{5, 6, 8, most} {
		p := holed(t, room)
		p.same(syncing(1, 2, 3))
		for ino := 1; ino <= 3; ino++ {
			for _, pos := range places {
				for _, n := range places {
					for _, r := range refills(ino, pos, n) {
						seen[strings.Split(r.text, "(")[0]+" "+checkRefill(t, p.s, ino, r)]++
					}
				}
			}
		}
		p.check()
	}
	for _, s := range []string{"Truncate OK", "Truncate Range", "Allocate OK", "Allocate Range", "Allocate NoSpace", "Punch OK", "Punch Range"} {
		if seen[s] < 100 {
			t.Errorf("%s: but %d", s, seen[s])
		}
	}
	if len(seen) != 7 {
		t.Error(seen)
	}
}

// checkRefill holds a change of what is in the file ino against extent, and takes it back; nothing is pending in s.
func checkRefill(t *testing.T, s *store.Store, ino int, r refill) string {
	t.Helper()
	i := s.Now()
	c, _ := image.Get(i, ino)
	made, ok := r.made(c)
	want := "OK"
	switch {
	case !ok:
		want = "Range"
	case len(made.L)-len(c.L) > s.Free() && strings.HasPrefix(r.text, "Allocate"):
		want = "NoSpace"
	}
	if got := r.do(s); got != want {
		t.Fatalf("%s: %s; want %s", r.text, got, want)
	}
	if want != "OK" {
		if !image.Same(s.Now(), i) || s.Pending() != 0 {
			t.Fatalf("%s: refused, and it has changed", r.text)
		}
		return want
	}
	if got, _ := image.Get(s.Now(), ino); !extent.Same(got, made) || s.Pending() != 1 {
		t.Fatalf("%s: %v; want %v", r.text, got, made)
	}
	s.Restart(nil)
	return want
}

func TestRefillsStay(t *testing.T) { // P13.2, P13.4
	for ino := 1; ino <= 3; ino++ {
		for _, pos := range []int{0, 3, 8, 17, 33, 40, 100, size - 16, size - 1} {
			for _, n := range []int{1, 8, 9, 16, 41} {
				for _, r := range refills(ino, pos, n) {
					p := holed(t, 20)
					p.same(syncing(1, 2, 3), r.call, restarting(true))
				}
			}
		}
	}
}

func TestRefillsByHand(t *testing.T) { // P13.4
	p := holed(t, 7)
	p.play(
		line{free, "3"}, line{pending, "8"},
		line{truncating(1, size+1), "Range"}, line{truncating(1, -1), "Range"}, line{truncating(3, size), "OK"}, line{sizing(3), fmt.Sprintf("%d OK", size)}, line{truncating(3, 0), "OK"}, line{pending, "10"},
		line{truncating(1, 17), "OK"}, line{pending, "11"}, line{now, "a 1: 17 1=[0 0 1 2 3 4 5 6] 2=[7]; b 2: 4100; c 3: 0"}, line{free, "5"},
		line{truncating(1, 40), "OK"}, line{reading(1, 16, 99), "[7 0 0 0 0 0 0 0 0 0 0 0 0 0 0 0 0 0 0 0 0 0 0 0] OK"}, line{pending, "12"},
		line{allocating(1, 0, 0, false), "Range"}, line{allocating(1, -1, 8, false), "Range"}, line{allocating(1, 0, wide+1, false), "Range"}, line{allocating(1, size, 1, true), "Range"},
		line{allocating(1, 0, 56, false), "OK"}, line{free, "0"}, line{sizing(1), "56 OK"}, line{pending, "13"},
		line{allocating(1, 3, 53, true), "OK"}, line{allocating(1, 55, 2, true), "NoSpace"}, line{allocating(2, 0, 1, true), "NoSpace"}, line{allocating(2, 0, wide, false), "NoSpace"}, line{sizing(1), "56 OK"}, line{sizing(2), "4100 OK"}, line{pending, "14"},
		line{punching(1, 0, 0), "Range"}, line{punching(1, 0, -1), "Range"}, line{punching(1, -1, 2), "Range"}, line{punching(1, size, 1), "Range"}, line{punching(1, 1, size), "Range"},
		line{punching(1, 9, 7), "OK"}, line{free, "0"}, line{punching(1, 3, 29), "OK"}, line{free, "3"}, line{sizing(1), "56 OK"}, line{pending, "16"},
		line{now, "a 1: 56 0=[] 4=[] 5=[] 6=[]; b 2: 4100; c 3: 0"}, line{punching(1, 0, size), "OK"}, line{free, "7"}, line{now, "a 1: 56; b 2: 4100; c 3: 0"},
		line{allocating(2, 8, 16, true), "OK"}, line{allocating(2, 20, 8, true), "OK"}, line{free, "4"}, line{sizing(2), "4100 OK"}, line{allocating(3, 9, 1, true), "OK"}, line{sizing(3), "0 OK"}, line{allocating(3, 9, 1, false), "OK"}, line{sizing(3), "10 OK"}, line{free, "3"},
	)
}

func TestAllocateWithLittleRoom(t *testing.T) { // P13.4
	for mask := range 64 {
		for room := range 8 {
			for _, keep := range []bool{false, true} {
				p := start(t, bits.OnesCount(uint(mask))+room)
				p.ask(creating("a"))
				for no := range 6 {
					if mask>>no&1 == 1 {
						p.ask(writing(1, no*8, 1))
					}
				}
				p.check()
				missing := 4 - (mask>>1&1 + mask>>2&1 + mask>>3&1 + mask>>4&1)
				want, left := "OK", room-missing
				if missing > room {
					want, left = "NoSpace", room
				}
				p.play(line{free, fmt.Sprint(room)}, line{allocating(1, 15, 18, keep), want}, line{free, fmt.Sprint(left)})
			}
		}
	}
}

func TestRename(t *testing.T) { // P13.4
	p := ready(t, 3)
	p.play(
		line{renaming("a", "d"), "OK"}, line{opening("a", false), "0 NoFile"}, line{opening("d", false), "1 OK"}, line{reading(1, 0, 9), "[1 2] OK"}, line{free, "1"}, line{pending, "1"},
		line{renaming("a", "e"), "NoFile"}, line{renaming("a", "b"), "NoFile"}, line{renaming("a", "a"), "NoFile"},
		line{renaming("d", "d"), "OK"}, line{renaming("b", "b"), "OK"}, line{pending, "1"},
		line{renaming("d", "b"), "OK"}, line{free, "2"}, line{now, "b 1: 2 0=[1 2]; c 3: 0"}, line{sizing(2), "0 NoFile"}, line{pending, "2"},
		line{renaming("c", "b"), "OK"}, line{free, "3"}, line{now, "b 3: 0"}, line{renaming("b", "c"), "OK"}, line{now, "c 3: 0"}, line{creating("b"), "4 OK"},
		line{renaming("b", strings.Repeat("x", 20)), "OK"}, line{renaming(strings.Repeat("x", 20), "-"), "Range"}, line{pending, "6"},
	)
	for _, bad := range []string{"", "-", "-a", "A", "a b", "a/", "\xff", strings.Repeat("a", 21)} {
		for _, s := range []string{"a", "b", "z", bad} {
			p.play(line{renaming(bad, s), "Range"}, line{renaming(s, bad), "Range"}, line{removing(bad), "Range"})
		}
	}
	p.play(line{pending, "6"})
}

func TestRemove(t *testing.T) { // P13.4
	ready(t, 3).play(
		line{removing("d"), "NoFile"}, line{free, "1"}, line{removing("a"), "OK"}, line{free, "2"}, line{now, "b 2: 9 1=[3]; c 3: 0"}, line{pending, "1"},
		line{removing("a"), "NoFile"}, line{sizing(1), "0 NoFile"}, line{opening("a", false), "0 NoFile"}, line{writing(1, 0, 1), "0 NoFile"}, line{pending, "1"},
		line{removing("c"), "OK"}, line{removing("b"), "OK"}, line{free, "3"}, line{now, ""}, line{pending, "3"}, line{removing("b"), "NoFile"},
		line{kept, "a 1: 2 0=[1 2]; b 2: 9 1=[3]; c 3: 0"}, line{syncing(), "OK"}, line{kept, ""},
	)
}

func TestSync(t *testing.T) { // P13.5
	p := ready(t, 9)
	p.play(
		line{writing(1, 0, 7), "1 OK"}, line{writing(2, 8, 8), "1 OK"}, line{creating("d"), "4 OK"}, line{writing(4, 0, 9), "1 OK"}, line{renaming("c", "e"), "OK"}, line{writing(1, 1, 6), "1 OK"}, line{truncating(3, 5), "OK"}, line{removing("b"), "OK"}, line{pending, "8"},
		// Names go with each of them.
		line{syncing(), "OK"}, line{pending, "5"}, line{kept, "a 1: 2 0=[1 2]; d 4: 0; e 3: 0"},
		line{syncing(99, 0, -1, math.MinInt, math.MaxInt), "OK"}, line{pending, "5"}, line{kept, "a 1: 2 0=[1 2]; d 4: 0; e 3: 0"},
		line{syncing(4, 4, 99, 4), "OK"}, line{pending, "4"}, line{kept, "a 1: 2 0=[1 2]; d 4: 1 0=[9]; e 3: 0"},
		line{syncing(1, 3), "OK"}, line{pending, "1"}, line{kept, "a 1: 2 0=[7 6]; d 4: 1 0=[9]; e 3: 5"},
		line{restarting(), ""}, line{now, "a 1: 2 0=[7 6]; d 4: 1 0=[9]; e 3: 5"}, line{pending, "0"},
	)
	// A name that was not synced goes with what is in another file, and one's bytes stay pending with their file made.
	start(t, 9).play(
		line{creating("a"), "1 OK"}, line{creating("b"), "2 OK"}, line{writing(2, 0, 1), "1 OK"}, line{writing(1, 0, 2), "1 OK"}, line{writing(2, 1, 3), "1 OK"},
		line{syncing(1), "OK"}, line{pending, "2"}, line{kept, "a 1: 1 0=[2]; b 2: 0"}, line{restarting(false, true), ""}, line{now, "a 1: 1 0=[2]; b 2: 2 0=[0 3]"},
	)
	// Each change goes on what is kept in its place in the order.
	start(t, 9).play(
		line{creating("a"), "1 OK"}, line{writing(1, 0, 1), "1 OK"}, line{truncating(1, 0), "OK"}, line{writing(1, 1, 2), "1 OK"}, line{allocating(1, 8, 1, false), "OK"}, line{punching(1, 1, 1), "OK"},
		line{syncing(1), "OK"}, line{kept, "a 1: 9 0=[] 1=[]"}, line{pending, "0"}, line{syncing(1), "OK"}, line{syncing(), "OK"}, line{pending, "0"},
	)
	start(t, 9).play(
		line{creating("a"), "1 OK"}, line{creating("b"), "2 OK"}, line{syncing(), "OK"}, line{renaming("a", "c"), "OK"}, line{renaming("b", "a"), "OK"}, line{renaming("c", "b"), "OK"}, line{kept, "a 1: 0; b 2: 0"},
		line{syncing(), "OK"}, line{kept, "a 2: 0; b 1: 0"},
	)
}

func TestSyncOfAFileThatIsGone(t *testing.T) { // P13.5
	for _, gone := range []line{{removing("a"), "OK"}, {renaming("b", "a"), "OK"}} {
		// What is pending of it goes as its number says, with its end or behind that.
		for _, ahead := range []line{{truncating(3, 4), "OK"}, {syncing(), "OK"}, {syncing(3), "OK"}} {
			p := ready(t, 9)
			p.play(line{writing(1, 0, 7), "1 OK"}, line{writing(2, 8, 8), "1 OK"}, gone, ahead, line{writing(3, 0, 1), "1 OK"})
			was := p.s.Pending()
			p.play(line{syncing(3), "OK"}, line{pending, "2"}, line{syncing(1), "OK"}, line{pending, "1"}, line{syncing(1, 2), "OK"}, line{pending, "0"})
			if _, ok := image.Get(p.s.Kept(), 1); ok || was < 3 {
				t.Errorf("%d were pending; %s", was, show(p.s.Kept()))
			}
			kept := show(p.s.Kept())
			p.play(line{now, kept}, line{restarting(true), ""}, line{now, kept})
		}
	}
	// Nor does it come back, if that is not synced: it has no name any more.
	ready(t, 9).play(
		line{writing(1, 0, 7), "1 OK"}, line{writing(2, 8, 8), "1 OK"}, line{removing("a"), "OK"}, line{syncing(2), "OK"}, line{pending, "1"}, line{restarting(true), ""}, line{now, "b 2: 9 1=[8]; c 3: 0"}, line{pending, "0"},
	)
	// One that is gone, and there again behind a Restart.
	ready(t, 9).play(
		line{writing(1, 0, 7), "1 OK"}, line{removing("a"), "OK"}, line{restarting(true), ""}, line{sizing(1), "2 OK"}, line{writing(1, 1, 8), "1 OK"},
		line{syncing(1), "OK"}, line{pending, "0"}, line{kept, "a 1: 2 0=[7 8]; b 2: 9 1=[3]; c 3: 0"},
	)
}

func TestSyncAsADeed(t *testing.T) { // P13.2, P13.5
	ready(t, 9).play(
		line{writing(1, 0, 7), "1 OK"}, line{creating("d"), "4 OK"}, line{arming(1), ""}, line{syncing(2), "OK"}, line{pending, "1"}, line{syncing(1), "Off"}, line{pending, "1"}, line{isOff, "true"},
		line{kept, "a 1: 2 0=[1 2]; b 2: 9 1=[3]; c 3: 0; d 4: 0"}, line{restarting(), ""}, line{now, "a 1: 2 0=[1 2]; b 2: 9 1=[3]; c 3: 0; d 4: 0"},
	)
	ready(t, 9).play(line{creating("d"), "4 OK"}, line{arming(0), ""}, line{syncing(), "Off"}, line{kept, "a 1: 2 0=[1 2]; b 2: 9 1=[3]; c 3: 0"}, line{pending, "1"}, line{restarting(true), ""}, line{opening("d", false), "4 OK"})
	var sync func(...int) api.Code = ready(t, 9).s.Sync
	if c := sync([]int{1, 2}...); c != api.OK {
		t.Error(c)
	}
}

// builds are lists of changes that build on each other, each with the change of all files that it is.
var builds = [][]struct {
	call
	op api.Op
}{
	{
		{creating("d"), api.Op{Kind: 1, Name: "d", Ino: 4}},
		{writing(4, 6, 1, 2), api.Op{Kind: 2, Ino: 4, Pos: 6, B: []byte{1, 2}}},
		{renaming("d", "e"), api.Op{Kind: 6, Name: "d", To: "e"}},
		{writing(4, 3, 3), api.Op{Kind: 2, Ino: 4, Pos: 3, B: []byte{3}}},
		{removing("e"), api.Op{Kind: 7, Name: "e"}},
		{creating("e"), api.Op{Kind: 1, Name: "e", Ino: 5}},
		{writing(5, 0, 4), api.Op{Kind: 2, Ino: 5, B: []byte{4}}},
		{renaming("e", "d"), api.Op{Kind: 6, Name: "e", To: "d"}},
	},
	{
		{truncating(1, 1), api.Op{Kind: 3, Ino: 1, Size: 1}},
		{allocating(1, 8, 9, true), api.Op{Kind: 4, Ino: 1, Pos: 8, Size: 9, Keep: true}},
		{truncating(1, 20), api.Op{Kind: 3, Ino: 1, Size: 20}},
		{writing(1, 18, 5, 6), api.Op{Kind: 2, Ino: 1, Pos: 18, B: []byte{5, 6}}},
		{punching(1, 0, 19), api.Op{Kind: 5, Ino: 1, Size: 19}},
		{allocating(1, 22, 4, false), api.Op{Kind: 4, Ino: 1, Pos: 22, Size: 4}},
		{renaming("b", "a"), api.Op{Kind: 6, Name: "b", To: "a"}},
		{creating("b"), api.Op{Kind: 1, Name: "b", Ino: 4}},
		{writing(2, 0, 7), api.Op{Kind: 2, Ino: 2, B: []byte{7}}},
	},
}

// keeps are all lists of so many times true or false.
func keeps(n int) [][]bool {
	l := [][]bool{nil}
	for range n {
		var more [][]bool
		for _, k := range l {
			more = append(more, append(slices.Clone(k), false), append(slices.Clone(k), true))
		}
		l = more
	}
	return l
}

func TestRestartOfEachPattern(t *testing.T) { // P13.2
	for _, build := range builds {
		for _, keep := range keeps(len(build)) {
			p := ready(t, 9)
			want := p.s.Kept()
			for k, b := range build {
				if got := p.ask(b.call); !strings.HasSuffix(got, "OK") {
					t.Fatalf("%s: %s", b.text, got)
				}
				if keep[k] {
					want = image.Apply(want, b.op)
				}
			}
			p.same(restarting(keep...))
			if got := p.s.Kept(); !image.Same(got, want) || !image.Same(p.s.Now(), want) || p.s.Pending() != 0 {
				t.Fatalf("%s: %s; want %s", p.told(), show(got), show(want))
			}
			// There is nothing left that another one could keep, and nothing armed.
			p.play(line{restarting(slices.Repeat([]bool{true}, 9)...), ""}, line{now, show(want)}, line{kept, show(want)}, line{pending, "0"}, line{isOff, "false"})
		}
	}
}

func TestRestartOfEachLength(t *testing.T) { // P13.2
	for n := range 9 {
		for _, front := range keeps(min(n, 4)) {
			keep := append(front, slices.Repeat([]bool{true}, n-len(front))...)
			for _, room := range [][]bool{nil, slices.Repeat([]bool{true}, 9)} {
				p := ready(t, 9)
				p.same(writing(1, 2, 7), writing(1, 3, 8), writing(1, 4, 9), writing(1, 5, 6))
				want := []byte{1, 2, 0, 0, 0, 0}
				for k, b := range []byte{7, 8, 9, 6} {
					if k < n && keep[k] {
						want[2+k] = b
					}
				}
				p.same(restarting(spare.Behind(keep, room...)...))
				b, _ := p.s.Read(1, 0, 6)
				if !bytes.Equal(b, want[:len(b)]) || bytes.ContainsFunc(want[len(b):], func(r rune) bool { return r != 0 }) {
					t.Errorf("%s: %v; want %v", p.told(), b, want)
				}
			}
		}
	}
	p := ready(t, 9)
	p.play(line{restarting(), ""}, line{restarting([]bool{}...), ""}, line{restarting(true, true), ""}, line{now, "a 1: 2 0=[1 2]; b 2: 9 1=[3]; c 3: 0"})
}

func TestRestart(t *testing.T) { // P13.2
	// With the power there as without it; what is synced needs no keeping.
	for _, off := range []bool{false, true} {
		p := ready(t, 9)
		p.same(writing(1, 0, 9), truncating(3, 4), syncing(3), creating("d"), writing(2, 8, 4))
		if off {
			p.same(arming(0), syncing())
		} else {
			p.same(arming(3))
		}
		p.play(line{isOff, fmt.Sprint(off)}, line{pending, "3"}, line{restarting(false, true), ""}, line{isOff, "false"}, line{pending, "0"},
			line{now, "a 1: 2 0=[1 2]; b 2: 9 1=[3]; c 3: 4; d 4: 0"}, line{kept, "a 1: 2 0=[1 2]; b 2: 9 1=[3]; c 3: 4; d 4: 0"})
		for range 5 {
			p.play(line{syncing(), "OK"}, line{restarting(), ""})
		}
		p.play(line{isOff, "false"})
	}
	// What was done on Now behind a Restart does not touch what is kept.
	ready(t, 9).play(line{restarting(), ""}, line{writing(1, 0, 9), "1 OK"}, line{removing("b"), "OK"}, line{kept, "a 1: 2 0=[1 2]; b 2: 9 1=[3]; c 3: 0"}, line{now, "a 1: 2 0=[9 2]; c 3: 0"})
}

func TestOrderOfTheCodes(t *testing.T) { // P13.3, P13.4
	long := make([]byte, 4097)
	p := full(t)
	refused := []line{
		{opening("A", false), "0 Range"}, {opening("A", true), "0 Range"}, {opening("zz", false), "0 NoFile"}, {opening("zz", true), "0 NoSpace"},
		{writing(99, -1, long...), "0 NoFile"}, {writing(99, 8, 1), "0 NoFile"}, {writing(1, -1, 1), "0 Range"}, {writing(1, 8, long...), "0 Range"}, {writing(1, size, 1), "0 Range"}, {writing(1, 8, 1), "0 NoSpace"},
		{truncating(99, -1), "NoFile"}, {truncating(1, -1), "Range"},
		{allocating(99, 0, 0, false), "NoFile"}, {allocating(99, 0, 800, false), "NoFile"}, {allocating(1, 0, wide+1, false), "Range"}, {allocating(1, 0, wide, false), "NoSpace"}, {allocating(1, size-8, 9, false), "Range"}, {allocating(1, size-8, 8, false), "NoSpace"},
		{punching(99, 0, 0), "NoFile"}, {punching(1, 0, 0), "Range"},
		{reading(99, -1, 4097), "[] NoFile"}, {reading(1, -1, 4097), "[] Range"}, {data(99, -1), "0 NoFile"}, {hole(99, -1), "0 NoFile"},
		{renaming("A", "zz"), "Range"}, {renaming("zz", "A"), "Range"}, {renaming("A", "A"), "Range"}, {renaming("zz", "zz"), "NoFile"}, {renaming("zz", "yy"), "NoFile"}, {renaming("a", "A"), "Range"}, {removing("A"), "Range"}, {removing("zz"), "NoFile"},
	}
	p.play(refused...)
	// A power that is still to go is ahead of none of them.
	p.same(arming(0))
	p.play(refused...)
	p.play(line{isOff, "false"}, line{pending, "0"}, line{syncing(), "Off"})
	for _, q := range refused {
		p.play(line{q.call, lost(q.want)})
	}
}

// menu is calls of all kinds for few files with little room.
func menu() []call {
	return []call{
		creating("a"), creating("b"), opening("a", false), writing(1, 6, 1, 2, 3), writing(1, 0, 4), writing(2, 3, 5, 6), writing(2, 0, make([]byte, 30)...),
		truncating(1, 7), truncating(2, 20), allocating(1, 8, 9, true), allocating(2, 0, 8, false), punching(1, 0, 8), punching(2, 0, 99),
		renaming("a", "b"), renaming("b", "a"), renaming("b", "c"), removing("a"), removing("b"),
		syncing(), syncing(1), syncing(2, 3), arming(0), arming(1), arming(2), restarting(), restarting(true, true, true, true, true), restarting(false, true, false, true),
	}
}

// histories goes through all lists of so many calls of a menu behind others.
func histories(t *testing.T, room, left int, ahead []call) {
	if left > 0 {
		for _, c := range menu() {
			histories(t, room, left-1, append(slices.Clone(ahead), c))
		}
		return
	}
	p := &pair{t: t, s: store.New(room), m: newModel(room)}
	for _, c := range ahead {
		p.ask(c)
	}
	p.check()
}

func TestEveryShortHistory(t *testing.T) { // P13.1 to P13.5
	for _, ahead := range [][]call{
		nil,
		{creating("b"), creating("a"), writing(2, 0, 9, 9), syncing(2), writing(1, 4, 7, 7), writing(2, 1, 8)},
		{creating("a"), writing(1, 0, 1, 2, 3, 4, 5, 6, 7, 8, 9), creating("b"), syncing(1), renaming("b", "c"), punching(1, 0, 8), writing(2, 0, 1)},
	} {
		for _, room := range []int{1, 3} {
			histories(t, room, 3, ahead)
		}
	}
}

// dice is numbers that seem to come by chance, the same ones each time.
type dice uint64

// roll is a number from 0 to below n.
func (d *dice) roll(n int) int {
	*d = *d*6364136223846793005 + 1442695040888963407
	return int(uint64(*d)>>33) % n
}

func (d *dice) name() string { return string(rune('a' + d.roll(19))) }

func (d *dice) bools() []bool {
	l := make([]bool, d.roll(30))
	for k := range l {
		l[k] = d.roll(2) == 0
	}
	return l
}

func (d *dice) bytes() []byte {
	b := make([]byte, d.roll(40))
	for k := range b {
		b[k] = byte(d.roll(256))
	}
	return b
}

// call is one of all kinds, of the files that were made of late, and such as there are not.
func (d *dice) call(last int) call {
	ino, pos, n := last+1-d.roll(12), d.roll(70), d.roll(40)
	switch d.roll(20) {
	case 0, 1:
		return opening(d.name(), d.roll(4) > 0)
	case 2, 3, 4, 5:
		return writing(ino, pos-1, d.bytes()...)
	case 6:
		return truncating(ino, pos-1)
	case 7:
		return allocating(ino, pos, n, d.roll(2) == 0)
	case 8:
		return punching(ino, pos, n)
	case 9:
		return renaming(d.name(), d.name())
	case 10:
		return removing(d.name())
	case 11, 12:
		return syncing(ino, last-d.roll(9))
	case 13:
		return syncing()
	case 14:
		return arming(d.roll(12) - 2)
	case 15:
		return restarting(d.bools()...)
	case 16:
		return reading(ino, pos-1, n-1)
	case 17:
		return data(ino, pos-1)
	case 18:
		return hole(ino, pos-1)
	}
	return sizing(ino)
}

func TestLongHistories(t *testing.T) { // P13.1 to P13.5
	seen := map[string]int{}
	for seed := range 60 {
		d := dice(seed)
		p := start(t, seed%13*2)
		for range 400 {
			c := d.call(p.m.made)
			seen[strings.Split(c.text, "(")[0]+" "+p.last(c)]++
			if p.m.off && d.roll(2) == 0 {
				p.same(restarting(d.bools()...))
			}
		}
	}
	for _, s := range []string{
		"Open OK", "Open NoFile", "Open Off", "Size OK", "Size NoFile", "Read OK", "Read NoFile", "Read Range", "Data OK", "Data Range", "Hole OK", "Hole Range", "Write OK", "Write NoFile", "Write Range", "Write NoSpace", "Write Off",
		"Truncate OK", "Truncate Range", "Allocate OK", "Allocate Range", "Allocate NoSpace", "Punch OK", "Punch Range", "Rename OK", "Rename NoFile", "Remove OK", "Remove NoFile", "Sync OK", "Sync Off",
	} {
		if seen[s] < 10 {
			t.Errorf("%s: but %d", s, seen[s])
		}
	}
}

// last makes a call of both and is the last word of what it answers.
func (p *pair) last(c call) string {
	p.t.Helper()
	got := p.ask(c)
	p.check()
	return got[strings.LastIndex(got, " ")+1:]
}

func TestWhatIsHandedInStays(t *testing.T) { // R2, R5
	for _, n := range []int{0, 1, 7, 8, 9, 40, 100} {
		for _, room := range []int{0, 1, 3, 99} {
			p := start(t, room, creating("a"), arming(6))
			b := spare.Behind(slices.Repeat([]byte{5}, n), 91, 92, 93)
			was := spare.Whole(b)
			p.same(writing(1, 3, b...), arming(-1))
			wait := p.s.Pending()
			if !slices.Equal(spare.Whole(b), was) {
				t.Errorf("%d bytes, room for %d: they are changed: %v", n, room, spare.Whole(b))
			}
			// Nor are the bytes kept: neither for what is read, nor for what is pending.
			spare.Spoil(b, 66)
			p.check()
			p.same(restarting(slices.Repeat([]bool{true}, wait)...), reading(1, 0, 200))
		}
	}
	p := ready(t, 9)
	p.same(writing(1, 0, 9), writing(2, 0, 8), truncating(3, 7), writing(1, 1, 7))
	inos := spare.Behind([]int{3, 99, 1, 3, 3}, 2, 1)
	was := spare.Whole(inos)
	p.same(syncing(inos...))
	if !slices.Equal(spare.Whole(inos), was) {
		t.Errorf("the numbers are changed: %v", spare.Whole(inos))
	}
	spare.Spoil(inos, 2)
	p.check()
	p.play(line{pending, "1"}, line{writing(1, 0, 1), "1 OK"}, line{pending, "2"})
	keep := spare.Behind([]bool{true}, true, true)
	wasKeep := spare.Whole(keep)
	p.same(restarting(keep...))
	if !slices.Equal(spare.Whole(keep), wasKeep) {
		t.Errorf("what is kept is changed: %v", spare.Whole(keep))
	}
	p.same(writing(1, 0, 3), writing(1, 1, 4))
	spare.Spoil(keep, true)
	p.same(restarting(), now)
}

func TestAnswersAreNew(t *testing.T) { // R2
	for _, l := range [][]call{
		nil, {syncing(1, 2, 3)}, {restarting(true, true, true)}, {restarting()}, {arming(0), syncing()}, {removing("a")}, {renaming("a", "b")}, {renaming("a", "b"), syncing()}, {creating("d")}, {creating("d"), restarting(true, true)},
	} {
		p := ready(t, 9)
		p.same(writing(1, 4, 7, 7, 7, 7, 7), truncating(2, 12))
		p.same(l...)
		images := []func() api.Image{p.s.Now, p.s.Kept}
		for _, one := range images {
			for _, other := range images {
				a, b := one(), other()
				was := show(b)
				spare.Ruin(a)
				if show(b) != was {
					t.Fatalf("%s: one image changes with another", p.told())
				}
				p.check()
				if !spare.Apart(b) {
					t.Fatalf("%s: two lists of an image share memory", p.told())
				}
				p.check()
			}
		}
		a, code := p.s.Read(2, 0, 99)
		b, _ := p.s.Read(2, 0, 99)
		was := slices.Clone(b)
		spare.Spoil(a, 99)
		if !slices.Equal(b, was) || code == api.OK && len(was) < 9 {
			t.Errorf("%s: one Read changes with another", p.told())
		}
		p.check()
		// What comes later hangs on none of them, either.
		p.same(restarting(true, false, true), writing(2, 3, 1), syncing(1, 2, 3, 4), restarting())
	}
}

func TestAnswersStay(t *testing.T) { // R2
	p := ready(t, 9)
	p.same(writing(1, 1, 7))
	i, k := p.s.Now(), p.s.Kept()
	b, _ := p.s.Read(1, 0, 2)
	p.same(writing(1, 0, 8, 8), syncing(1), punching(1, 0, 8), truncating(2, 1), removing("c"), creating("d"), renaming("a", "b"), restarting(true, true), writing(2, 8, 5))
	if show(i) != "a 1: 2 0=[1 7]; b 2: 9 1=[3]; c 3: 0" || show(k) != "a 1: 2 0=[1 2]; b 2: 9 1=[3]; c 3: 0" || !slices.Equal(b, []byte{1, 7}) {
		t.Errorf("%s; %s; %v", show(i), show(k), b)
	}
}

func TestNilIsEmpty(t *testing.T) { // R4
	for _, b := range [][]byte{nil, {}, spare.Behind(nil, byte(1))} {
		p := ready(t, 0)
		p.play(line{arming(0), ""}, line{writing(1, 40, b...), "0 OK"}, line{writing(1, -1, b...), "0 Range"}, line{writing(1, size, b...), "0 OK"}, line{sizing(3), "0 OK"}, line{isOff, "false"})
	}
	for _, keep := range [][]bool{nil, {}, spare.Behind(nil, true, true)} {
		p := ready(t, 9)
		p.play(line{writing(1, 0, 9), "1 OK"}, line{restarting(keep...), ""}, line{reading(1, 0, 9), "[1 2] OK"})
	}
	for _, inos := range [][]int{nil, {}, spare.Behind(nil, 1, 2)} {
		p := ready(t, 9)
		p.play(line{writing(1, 0, 9), "1 OK"}, line{creating("d"), "4 OK"}, line{syncing(inos...), "OK"}, line{pending, "1"}, line{kept, "a 1: 2 0=[1 2]; b 2: 9 1=[3]; c 3: 0; d 4: 0"})
	}
}
