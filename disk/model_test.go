package disk_test

import (
	"fmt"
	"math"
	"slices"
	"strings"
	"testing"

	"massif/api"
	"massif/disk"
)

// The document's numbers of MaxFile and of a sector's bytes.
const (
	longest = 1 << 28
	sector  = 64
)

// great is room for all that a test writes.
const great = 1 << 40

// chance gives numbers by a rule, the same ones in every run.
type chance uint64

func (c *chance) next() uint64 {
	*c = *c*6364136223846793005 + 1442695040888963407
	return uint64(*c)>>32 ^ uint64(*c)<<32
}

// below is a number from 0 to n - 1.
func (c *chance) below(n int) int {
	return int(c.next() % (1 << 32) * uint64(n) >> 32)
}

// text has n bytes: of any kind, or all one, which may be zero.
func (c *chance) text(n int) string {
	if c.below(3) == 0 {
		return strings.Repeat(pick(c, "\x00", "x", "y"), n)
	}
	row := make([]byte, n)
	for i := range row {
		row[i] = byte(c.next())
	}
	return string(row)
}

// keep is a list of choices, of none up to nine.
func (c *chance) keep() []bool {
	list := make([]bool, c.below(10))
	for i := range list {
		list[i] = c.below(2) == 0
	}
	return list
}

// fate is any, also one that is none.
func (c *chance) fate() api.Fate {
	at := pick(c, 1, 1, 2, 3, 5, 9, 0, -1, math.MinInt, math.MaxInt)
	kind := pick(c, 1, 2, 3, 4, 5, 1, 2, 3, 0, 6, -1, 1<<32+4, math.MinInt, math.MaxInt)
	return api.Fate{At: at, Kind: kind, Keep: c.keep()}
}

// pick is one of a list.
func pick[T any](c *chance, list ...T) T {
	return list[c.below(len(list))]
}

// names are empty, of one letter, of many, of bytes that are no text; some begin with others.
func names() []string {
	return []string{"", "a", "b", "B", "aa", "a\x00", "\x00", "\xff", "\xc3\x28", "\xe2\x82", "é", "a/b", strings.Repeat("name", 100)}
}

// twin is a file by the chapter's words.
type twin struct {
	now, synced string
}

// model is a disk by the chapter's words: maps of texts, without any thought of how long it takes.
type model struct {
	room  int
	files map[string]twin
	acts  int
	fate  api.Fate // Kind 0, if none lies
	down  bool
	left  []api.File // what stayed, once the power is out
}

func modelOf(room int, files ...api.File) *model {
	m := &model{room: room, files: map[string]twin{}}
	for _, f := range files {
		m.files[f.Name] = twin{f.Data, f.Data}
	}
	return m
}

// used is how many bytes all files have.
func (m *model) used() int {
	n := 0
	for _, f := range m.files {
		n += len(f.now)
	}
	return n
}

func (m *model) lay(f api.Fate) {
	if m.down {
		return
	}
	if f.At < 1 || f.Kind < 1 || f.Kind > 5 {
		f = api.Fate{}
	}
	m.fate = f
	m.fate.Keep = slices.Clone(f.Keep)
}

// act is one that no error of its own refuses; a file as it is once it is done.
func (m *model) act(name string, done twin) api.Errno {
	m.acts++
	kind, keep := 0, m.fate.Keep
	if m.fate.Kind != 0 {
		if m.fate.At == 1 {
			kind = m.fate.Kind
			m.fate = api.Fate{}
		} else {
			m.fate.At--
		}
	}
	isDone := kind == 0 || kind == 3 || kind == 5
	if isDone {
		m.files[name] = done
	}
	if kind == 4 || kind == 5 {
		m.left = stayed(m.files, keep)
		m.down = true
	}
	return []api.Errno{0, 171, 172, 171, 170, 170}[kind]
}

func (m *model) write(name string, off int, data string) api.Errno {
	f := m.files[name]
	if m.down {
		return 170
	}
	if off < 0 || off > len(f.now) {
		return 173
	}
	will := f.now[:off] + data
	if off+len(data) < len(f.now) {
		will += f.now[off+len(data):]
	}
	if len(will) > longest {
		return 173
	}
	if len(will) > len(f.now) && m.used()-len(f.now)+len(will) > m.room {
		return 172
	}
	return m.act(name, twin{will, f.synced})
}

func (m *model) cut(name string, size int) api.Errno {
	f := m.files[name]
	if m.down {
		return 170
	}
	if size < 0 || size > len(f.now) {
		return 173
	}
	return m.act(name, twin{f.now[:size], f.synced})
}

func (m *model) sync(name string) api.Errno {
	f := m.files[name]
	if m.down {
		return 170
	}
	return m.act(name, twin{f.now, f.now})
}

func (m *model) read(name string, off, n int) (string, api.Errno) {
	f := m.files[name]
	if m.down {
		return "", 170
	}
	if off < 0 || n < 0 || off > len(f.now) || n > len(f.now) || off+n > len(f.now) {
		return "", 173
	}
	return f.now[off : off+n], 0
}

func (m *model) size(name string) int {
	if m.down {
		return 0
	}
	return len(m.files[name].now)
}

func (m *model) told() []api.File {
	if m.down {
		return m.left
	}
	return stayed(m.files, []bool{true})
}

func (m *model) after(keep []bool) []api.File {
	if m.down {
		return m.left
	}
	return stayed(m.files, keep)
}

// stayed is what stays of files by keep: those that have bytes, by their names.
func stayed(files map[string]twin, keep []bool) []api.File {
	taken := 0
	choice := func() bool {
		i := taken
		taken++
		return len(keep) > 0 && keep[i%len(keep)]
	}
	var order []string
	for name := range files {
		order = append(order, name)
	}
	slices.Sort(order)
	var list []api.File
	for _, name := range order {
		if data := files[name].stays(choice); data != "" {
			list = append(list, api.File{Name: name, Data: data})
		}
	}
	return list
}

// stays goes through a file whose two texts are made equally long by zeros.
func (f twin) stays(choice func() bool) string {
	size := len(f.synced)
	if len(f.now) != len(f.synced) && choice() {
		size = len(f.now)
	}
	count := (max(len(f.now), len(f.synced)) + sector - 1) / sector
	now, synced := filled(f.now, count*sector), filled(f.synced, count*sector)
	whole := ""
	for s := range count {
		one, other := now[s*sector:(s+1)*sector], synced[s*sector:(s+1)*sector]
		if one != other && choice() {
			whole += one
		} else {
			whole += other
		}
	}
	return whole[:size]
}

// filled is a text with zeros behind it, n bytes in all.
func filled(s string, n int) string {
	return s + strings.Repeat("\x00", n-len(s))
}

// call is one that is made on a disk or on a model.
type call struct {
	op     string
	name   string
	off, n int
	data   string
	fate   api.Fate
	keep   []bool
}

// answer is what a call answers; what its op has not is zero.
type answer struct {
	e     api.Errno
	text  string
	n     int
	is    bool
	files string
}

func (x call) on(d *disk.Disk) (a answer) {
	switch x.op {
	case "Lay":
		d.Lay(x.fate)
	case "Write":
		a.e = d.Write(x.name, x.off, x.data)
	case "Cut":
		a.e = d.Cut(x.name, x.n)
	case "Sync":
		a.e = d.Sync(x.name)
	case "Read":
		a.text, a.e = d.Read(x.name, x.off, x.n)
	case "Size":
		a.n = d.Size(x.name)
	case "Acts":
		a.n = d.Acts()
	case "Down":
		a.is = d.Down()
	case "Files":
		a.files = shown(d.Files())
	case "After":
		a.files = shown(d.After(x.keep))
	}
	return a
}

func (x call) onModel(m *model) (a answer) {
	switch x.op {
	case "Lay":
		m.lay(x.fate)
	case "Write":
		a.e = m.write(x.name, x.off, x.data)
	case "Cut":
		a.e = m.cut(x.name, x.n)
	case "Sync":
		a.e = m.sync(x.name)
	case "Read":
		a.text, a.e = m.read(x.name, x.off, x.n)
	case "Size":
		a.n = m.size(x.name)
	case "Acts":
		a.n = m.acts
	case "Down":
		a.is = m.down
	case "Files":
		a.files = shown(m.told())
	case "After":
		a.files = shown(m.after(x.keep))
	}
	return a
}

// shown is a list of files as text; each list has a text of its own.
func shown(list []api.File) string {
	var s strings.Builder
	for _, f := range list {
		fmt.Fprintf(&s, "%q=%q ", f.Name, f.Data)
	}
	return s.String()
}

// short is a text as a fault tells it.
func short(s string) string {
	if len(s) <= 200 {
		return fmt.Sprintf("%q", s)
	}
	return fmt.Sprintf("%q.. (%d)", s[:200], len(s))
}

func (x call) String() string {
	switch x.op {
	case "Lay":
		return fmt.Sprintf("Lay(%+v)", x.fate)
	case "Write":
		return fmt.Sprintf("Write(%q, %d, %s)", x.name, x.off, short(x.data))
	case "Cut":
		return fmt.Sprintf("Cut(%q, %d)", x.name, x.n)
	case "Read":
		return fmt.Sprintf("Read(%q, %d, %d)", x.name, x.off, x.n)
	case "Sync", "Size":
		return fmt.Sprintf("%s(%q)", x.op, x.name)
	case "After":
		return fmt.Sprintf("After(%v)", x.keep)
	}
	return x.op + "()"
}

func (a answer) String() string {
	return fmt.Sprintf("%d, %s, %d, %v, %s", a.e, short(a.text), a.n, a.is, short(a.files))
}

// pair is a disk and the model that it is held against.
type pair struct {
	d *disk.Disk
	m *model
}

// fresh is an empty disk.
func fresh(room int) pair {
	return pair{disk.New(room), modelOf(room)}
}

// opened is one with files.
func opened(t *testing.T, room int, files ...api.File) pair {
	t.Helper()
	d, e := disk.Open(room, files)
	if e != api.OK || d == nil {
		t.Fatalf("P17.1: Open(%d, %s): %v, %d", room, short(shown(files)), d, e)
	}
	return pair{d, modelOf(room, files...)}
}

// call makes a call on both, which must answer alike.
func (p pair) call(t *testing.T, promise string, x call) answer {
	t.Helper()
	got, want := x.on(p.d), x.onModel(p.m)
	if got != want {
		t.Fatalf("%s: %v: %v, want %v", promise, x, got, want)
	}
	return got
}

func (p pair) write(t *testing.T, name string, off int, data string) api.Errno {
	t.Helper()
	return p.call(t, "P17.1", call{op: "Write", name: name, off: off, data: data}).e
}

func (p pair) cut(t *testing.T, name string, size int) api.Errno {
	t.Helper()
	return p.call(t, "P17.1", call{op: "Cut", name: name, n: size}).e
}

func (p pair) sync(t *testing.T, name string) api.Errno {
	t.Helper()
	return p.call(t, "P17.1", call{op: "Sync", name: name}).e
}

func (p pair) lay(f api.Fate) {
	p.d.Lay(f)
	p.m.lay(f)
}

// someKeeps are lists of no choice, one, and several.
func someKeeps() [][]bool {
	return [][]bool{nil, {}, {true}, {false}, {true, false}, {false, true}, {true, true, false}, {false, true, true}, {true, false, false, false, true}}
}

// looks are all calls that change nothing, of these names.
func looks(list []string) []call {
	calls := []call{{op: "Acts"}, {op: "Down"}, {op: "Files"}}
	for _, keep := range someKeeps() {
		calls = append(calls, call{op: "After", keep: keep})
	}
	for _, name := range list {
		calls = append(calls, call{op: "Size", name: name}, call{op: "Read", name: name}, call{op: "Read", name: name, n: 1}, call{op: "Read", name: name, off: 1, n: 2}, call{op: "Read", name: name, off: -1})
	}
	return calls
}

// check looks at all of a disk.
func (p pair) check(t *testing.T, promise string) {
	t.Helper()
	for _, x := range looks(names()) {
		p.call(t, promise, x)
	}
	for name := range p.m.files {
		p.call(t, promise, call{op: "Read", name: name, n: len(p.m.files[name].now)})
	}
}

// is tells a fault, if an answer is not the one that the document writes out.
func is[T comparable](t *testing.T, what string, got, want T) {
	t.Helper()
	if got != want {
		t.Errorf("%s: %v, want %v", what, got, want)
	}
}

// tells holds a list of files against names and bytes, one behind the other.
func tells(t *testing.T, what string, got []api.File, want ...string) {
	t.Helper()
	var list []api.File
	for i := 0; i < len(want); i += 2 {
		list = append(list, api.File{Name: want[i], Data: want[i+1]})
	}
	if !slices.Equal(got, list) {
		t.Errorf("%s: %s, want %s", what, short(shown(got)), short(shown(list)))
	}
}
