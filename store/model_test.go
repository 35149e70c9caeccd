package store_test

import (
	"maps"
	"regexp"
	"slices"

	"salvor/api"
)

// file is what is in a file: its size, and the bytes of the blocks that are there.
type file struct {
	size   int
	blocks map[int][api.Block]byte
}

func (f *file) there(no int) bool {
	_, ok := f.blocks[no]
	return ok
}

// touch makes each block there that has one of n places from pos on.
func (f *file) touch(pos, n int) {
	for no := pos / 8; no <= (pos+n-1)/8; no++ {
		f.blocks[no] = f.blocks[no]
	}
}

func (f *file) write(pos int, b []byte) {
	for k, v := range b {
		block := f.blocks[(pos+k)/8]
		block[(pos+k)%8] = v
		f.blocks[(pos+k)/8] = block
	}
	f.size = max(f.size, pos+len(b))
}

// clear makes noughts of the places from pos on ahead of end, and holes of the blocks that have no others.
func (f *file) clear(pos, end int) {
	for _, no := range slices.Collect(maps.Keys(f.blocks)) {
		block := f.blocks[no]
		for k := range block {
			if at := no*8 + k; at >= pos && at < end {
				block[k] = 0
			}
		}
		f.blocks[no] = block
		if no*8 >= pos && no*8+8 <= end {
			delete(f.blocks, no)
		}
	}
}

// missing is how many blocks that have one of n places from pos on are not there.
func (f *file) missing(pos, n int) int {
	sum := 0
	for no := pos / 8; no <= (pos+n-1)/8; no++ {
		if !f.there(no) {
			sum++
		}
	}
	return sum
}

// files are the numbers of the names, and what is in the numbers' files.
type files struct {
	inos map[string]int
	in   map[int]*file
}

func noFiles() files { return files{map[string]int{}, map[int]*file{}} }

func (f files) clone() files {
	out := files{maps.Clone(f.inos), map[int]*file{}}
	for ino, in := range f.in {
		out.in[ino] = &file{in.size, maps.Clone(in.blocks)}
	}
	return out
}

func (f files) used() int {
	sum := 0
	for _, in := range f.in {
		sum += len(in.blocks)
	}
	return sum
}

func (f files) image() api.Image {
	var i api.Image
	for _, s := range slices.Sorted(maps.Keys(f.inos)) {
		i.Names = append(i.Names, api.Name{Name: s, Ino: f.inos[s]})
	}
	for _, ino := range slices.Sorted(maps.Keys(f.in)) {
		c := api.Content{Size: f.in[ino].size}
		for _, no := range slices.Sorted(maps.Keys(f.in[ino].blocks)) {
			c.L = append(c.L, api.Ext{No: no, B: f.in[ino].blocks[no]})
		}
		i.Nodes = append(i.Nodes, api.Node{Ino: ino, C: c})
	}
	return i
}

// change is a change of all files: of their names, or of what is in the file ino.
type change struct {
	names bool
	ino   int
	do    func(f files)
}

// inFile is a change of what is in the file ino, if there is one.
func inFile(ino int, do func(in *file)) change {
	return change{ino: ino, do: func(f files) {
		if in, ok := f.in[ino]; ok {
			do(in)
		}
	}}
}

// model is a store, said plainly.
type model struct {
	room, made, armed int // armed: -1 without
	now, kept         files
	pending           []change
	off               bool
}

func newModel(room int) *model {
	return &model{room: min(max(room, 0), 4096), armed: -1, now: noFiles(), kept: noFiles()}
}

func (m *model) Now() api.Image  { return m.now.image() }
func (m *model) Kept() api.Image { return m.kept.image() }
func (m *model) Pending() int    { return len(m.pending) }
func (m *model) Free() int       { return max(0, m.room-m.now.used()) }
func (m *model) Off() bool       { return m.off }
func (m *model) Arm(n int)       { m.armed = max(n, -1) }

func (m *model) Restart(keep []bool) {
	for k, c := range m.pending {
		if k < len(keep) && keep[k] {
			c.do(m.kept)
		}
	}
	m.now, m.pending, m.off, m.armed = m.kept.clone(), nil, false, -1
}

func (m *model) deed() api.Code {
	if m.armed == 0 {
		m.off = true
		return api.Off
	}
	m.armed = max(m.armed-1, -1)
	return api.OK
}

func (m *model) change(c change) api.Code {
	code := m.deed()
	if code == api.OK {
		c.do(m.now)
		m.pending = append(m.pending, c)
	}
	return code
}

// first is the first of these codes that applies.
func first(l ...when) api.Code {
	for _, w := range l {
		if w.so {
			return w.code
		}
	}
	return api.OK
}

type when struct {
	so   bool
	code api.Code
}

var nameRule = regexp.MustCompile(`\A[a-z0-9._][a-z0-9._-]{0,19}\z`)

func (m *model) called(s string) bool {
	_, ok := m.now.inos[s]
	return ok
}

// in is the file ino, one without bytes if there is none.
func (m *model) in(ino int) *file {
	if in, ok := m.now.in[ino]; ok {
		return in
	}
	return &file{}
}

func (m *model) noFile(ino int) when {
	_, ok := m.now.in[ino]
	return when{!ok, api.NoFile}
}

func (m *model) Open(s string, make bool) (int, api.Code) {
	code := first(when{m.off, api.Off}, when{!nameRule.MatchString(s), api.Range}, when{!make && !m.called(s), api.NoFile})
	if code != api.OK {
		return 0, code
	}
	if m.called(s) {
		return m.now.inos[s], code
	}
	if len(m.now.inos) == 16 {
		return 0, api.NoSpace
	}
	ino := m.made + 1
	code = m.change(change{names: true, do: func(f files) {
		_, there := f.inos[s]
		_, has := f.in[ino]
		if !there && !has && len(f.inos) < 16 {
			f.inos[s], f.in[ino] = ino, &file{blocks: map[int][8]byte{}}
		}
	}})
	if code != api.OK {
		return 0, code
	}
	m.made = ino
	return ino, code
}

func (m *model) Size(ino int) (int, api.Code) {
	code := first(when{m.off, api.Off}, m.noFile(ino))
	if code != api.OK {
		return 0, code
	}
	return m.in(ino).size, code
}

func (m *model) Read(ino, pos, n int) ([]byte, api.Code) {
	code := first(when{m.off, api.Off}, m.noFile(ino), when{pos < 0 || n < 0 || n > 4096, api.Range})
	if code != api.OK {
		return nil, code
	}
	var out []byte
	in := m.in(ino)
	for p := pos; p < in.size && p-pos < n; p++ {
		out = append(out, in.blocks[p/8][p%8])
	}
	return out, code
}

func (m *model) Data(ino, pos int) (int, api.Code) {
	code := first(when{m.off, api.Off}, m.noFile(ino), when{pos < 0, api.Range})
	if code != api.OK {
		return 0, code
	}
	in := m.in(ino)
	for _, no := range slices.Sorted(maps.Keys(in.blocks)) {
		if no*8+8 > pos && max(no*8, pos) < in.size {
			return max(no*8, pos), api.OK
		}
	}
	return 0, api.Range
}

func (m *model) Hole(ino, pos int) (int, api.Code) {
	in := m.in(ino)
	code := first(when{m.off, api.Off}, m.noFile(ino), when{pos < 0 || pos >= in.size, api.Range})
	if code != api.OK {
		return 0, code
	}
	for pos < in.size && in.there(pos/8) {
		pos++
	}
	return pos, code
}

func (m *model) Write(ino, pos int, b []byte) (int, api.Code) {
	code := first(when{m.off, api.Off}, m.noFile(ino), when{pos < 0 || len(b) > 4096 || pos > 1<<40-len(b), api.Range})
	if code != api.OK {
		return 0, code
	}
	done := 0
	for done < len(b) {
		at := pos + done
		if m.Free() == 0 && !m.in(ino).there(at/8) {
			return done, api.NoSpace
		}
		part := slices.Clone(b[done:min(len(b), done+8-at%8)])
		if code := m.change(inFile(ino, func(in *file) { in.write(at, part) })); code != api.OK {
			return done, code
		}
		done += len(part)
	}
	return done, api.OK
}

func (m *model) Truncate(ino, size int) api.Code {
	code := first(when{m.off, api.Off}, m.noFile(ino), when{size < 0 || size > 1<<40, api.Range})
	if code != api.OK {
		return code
	}
	return m.change(inFile(ino, func(in *file) {
		in.clear(size, 1<<41)
		in.size = size
	}))
}

// wrong tells whether n places from pos on are none that can be changed.
func wrong(pos, n int) bool { return pos < 0 || n < 1 || pos > 1<<40 || n > 1<<40-pos }

func (m *model) Allocate(ino, pos, n int, keep bool) api.Code {
	code := first(when{m.off, api.Off}, m.noFile(ino), when{wrong(pos, n) || n > 4096*8, api.Range})
	if code != api.OK {
		return code
	}
	if m.in(ino).missing(pos, n) > m.Free() {
		return api.NoSpace
	}
	return m.change(inFile(ino, func(in *file) {
		in.touch(pos, n)
		if !keep {
			in.size = max(in.size, pos+n)
		}
	}))
}

func (m *model) Punch(ino, pos, n int) api.Code {
	code := first(when{m.off, api.Off}, m.noFile(ino), when{wrong(pos, n), api.Range})
	if code != api.OK {
		return code
	}
	return m.change(inFile(ino, func(in *file) { in.clear(pos, pos+n) }))
}

func (m *model) Rename(s, to string) api.Code {
	code := first(when{m.off, api.Off}, when{!nameRule.MatchString(s), api.Range}, when{!nameRule.MatchString(to), api.Range}, when{!m.called(s), api.NoFile})
	if code != api.OK || s == to {
		return code
	}
	return m.change(change{names: true, do: func(f files) {
		if ino, ok := f.inos[s]; ok {
			delete(f.in, f.inos[to])
			delete(f.inos, s)
			f.inos[to] = ino
		}
	}})
}

func (m *model) Remove(s string) api.Code {
	code := first(when{m.off, api.Off}, when{!nameRule.MatchString(s), api.Range}, when{!m.called(s), api.NoFile})
	if code != api.OK {
		return code
	}
	return m.change(change{names: true, do: func(f files) {
		delete(f.in, f.inos[s])
		delete(f.inos, s)
	}})
}

func (m *model) Sync(inos ...int) api.Code {
	if m.off {
		return api.Off
	}
	if code := m.deed(); code != api.OK {
		return code
	}
	var left []change
	for _, c := range m.pending {
		if c.names || slices.Contains(inos, c.ino) {
			c.do(m.kept)
		} else {
			left = append(left, c)
		}
	}
	m.pending = left
	return api.OK
}
