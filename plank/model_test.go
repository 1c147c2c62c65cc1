package plank_test

import (
	"fmt"
	"slices"
	"sort"
	"strings"
	"testing"

	"manciple/api"
	"manciple/plank"
)

// model is the document's sentences once more, in another way: files as a
// list, each byte with a mark of its own, faults as a row of those to come.
type model struct {
	room  int
	files []paper
	ops   int
	down  bool
	plan  []int
}

type paper struct {
	name string
	ink  []drop
}

type drop struct {
	b    byte
	safe bool
}

func (p paper) text() string {
	var b strings.Builder
	for _, x := range p.ink {
		b.WriteByte(x.b)
	}
	return b.String()
}

func (p paper) safe() int {
	n := 0
	for n < len(p.ink) && p.ink[n].safe {
		n++
	}
	return n
}

func ink(s string, safe bool) []drop {
	var list []drop
	for i := range len(s) {
		list = append(list, drop{s[i], safe})
	}
	return list
}

func (m *model) index(name string) int {
	return slices.IndexFunc(m.files, func(p paper) bool { return p.name == name })
}

func (m *model) used() int {
	n := 0
	for _, p := range m.files {
		n += len(p.ink)
	}
	return n
}

func (m *model) remove(name string) {
	m.files = slices.DeleteFunc(m.files, func(p paper) bool { return p.name == name })
}

func (m *model) show() string {
	list := slices.Clone(m.files)
	sort.Slice(list, func(i, j int) bool { return list[i].name < list[j].name })
	var b strings.Builder
	for _, p := range list {
		fmt.Fprintf(&b, "%q: %q, %d of %d safe; ", p.name, p.text(), p.safe(), len(p.ink))
	}
	fmt.Fprintf(&b, "used %d, down %v", m.used(), m.down)
	return b.String()
}

// opening is what comes ahead of all that an operation does by itself.
func (m *model) opening(bad bool) api.Errno {
	if bad {
		return api.ErrArg
	}
	if m.down {
		return api.ErrDown
	}
	m.ops++
	if len(m.plan) == 0 {
		return api.OK
	}
	kind := m.plan[0]
	m.plan = m.plan[1:]
	if kind == api.FaultPower {
		m.down, m.plan = true, nil
		return api.ErrDown
	}
	if kind == api.FaultIO {
		return api.ErrIO
	}
	return api.OK
}

func noName(name string) bool { return len(name) < 1 || len(name) > longestName }

func (m *model) create(name string) api.Errno {
	if e := m.opening(noName(name)); e != api.OK {
		return e
	}
	if m.index(name) >= 0 {
		return api.ErrTwice
	}
	if len(m.files) == mostFiles {
		return api.ErrFull
	}
	m.files = append(m.files, paper{name: name})
	return api.OK
}

func (m *model) append(name, s string) api.Errno {
	if e := m.opening(noName(name)); e != api.OK {
		return e
	}
	i := m.index(name)
	if i < 0 {
		return api.ErrNone
	}
	if m.used()+len(s) > m.room {
		return api.ErrFull
	}
	m.files[i].ink = append(m.files[i].ink, ink(s, false)...)
	return api.OK
}

func (m *model) read(name string, at, n int) (string, api.Errno) {
	if e := m.opening(noName(name) || at < 0 || n < 0); e != api.OK {
		return "", e
	}
	i := m.index(name)
	if i < 0 {
		return "", api.ErrNone
	}
	text := m.files[i].text()
	if at > len(text) {
		return "", api.ErrRange
	}
	var b strings.Builder
	for k := at; k < len(text) && b.Len() < n; k++ {
		b.WriteByte(text[k])
	}
	return b.String(), api.OK
}

func (m *model) sync(name string) api.Errno {
	if e := m.opening(noName(name)); e != api.OK {
		return e
	}
	i := m.index(name)
	if i < 0 {
		return api.ErrNone
	}
	m.files[i].ink = ink(m.files[i].text(), true)
	return api.OK
}

func (m *model) rename(from, to string) api.Errno {
	if e := m.opening(noName(from) || noName(to)); e != api.OK {
		return e
	}
	if m.index(from) < 0 {
		return api.ErrNone
	}
	if from != to {
		m.remove(to)
		m.files[m.index(from)].name = to
	}
	return api.OK
}

func (m *model) delete(name string) api.Errno {
	if e := m.opening(noName(name)); e != api.OK {
		return e
	}
	if m.index(name) < 0 {
		return api.ErrNone
	}
	m.remove(name)
	return api.OK
}

// arm is for numbers so small that the faults can be written out.
func (m *model) arm(at, kind, more int) {
	m.plan = nil
	if at < 1 || at > farthest || kind < api.FaultIO || kind > api.FaultPower {
		return
	}
	m.plan = append(make([]int, at-1), kind)
	for range max(more, 0) {
		m.plan = append(m.plan, kind)
	}
}

func (m *model) off() { m.down, m.plan = true, nil }

func (m *model) on(keeps []int) {
	if !m.down {
		return
	}
	m.down = false
	sort.Slice(m.files, func(i, j int) bool { return m.files[i].name < m.files[j].name })
	i := 0
	for k := range m.files {
		p := &m.files[k]
		text, safe := p.text(), p.safe()
		if safe == len(text) {
			continue
		}
		keep := 0
		if i < len(keeps) && keeps[i] > 0 {
			keep = keeps[i] % (len(text) - safe + 1)
		}
		i++
		p.ink = ink(text[:safe+keep], true)
	}
}

func (m *model) flip(name string, at int, by byte) bool {
	i := m.index(name)
	if i < 0 || at < 0 || at >= len(m.files[i].ink) || by == 0 {
		return false
	}
	m.files[i].ink[at].b ^= by
	return true
}

func (m *model) lay(name, s string) api.Errno {
	if noName(name) {
		return api.ErrArg
	}
	after := model{room: m.room, files: slices.Clone(m.files)}
	after.remove(name)
	after.files = append(after.files, paper{name, ink(s, true)})
	if len(after.files) > mostFiles || after.used() > m.room {
		return api.ErrFull
	}
	m.files = after.files
	return api.OK
}

// script tells calls by bytes; behind their end all are 0.
type script struct{ rest []byte }

func (s *script) next() int {
	if len(s.rest) == 0 {
		return 0
	}
	b := s.rest[0]
	s.rest = s.rest[1:]
	return int(b)
}

// number is small, now and then below 0.
func (s *script) number() int { return s.next()%40 - 4 }

func (s *script) name() string {
	names := []string{"a", "b", "a\x00", "\xff", "c", strings.Repeat("n", longestName), strings.Repeat("n", longestName+1), ""}
	return names[s.next()%len(names)]
}

func (s *script) text() string { return "0123456789abcdefghijklmnopqrstuvwxyz"[:s.next()%30] }

// step makes one call of both, and tells what each answered.
func step(d *plank.Plank, m *model, s *script) (got, want string) {
	switch op := s.next() % 14; op {
	case 0, 1:
		name := s.name()
		return fmt.Sprint("Create ", d.Create(name)), fmt.Sprint("Create ", m.create(name))
	case 2, 3, 4:
		name, text := s.name(), s.text()
		return fmt.Sprint("Append ", d.Append(name, text)), fmt.Sprint("Append ", m.append(name, text))
	case 5:
		name, at, n := s.name(), s.number(), s.number()
		text, e := d.Read(name, at, n)
		other, f := m.read(name, at, n)
		return fmt.Sprintf("Read %q %d", text, e), fmt.Sprintf("Read %q %d", other, f)
	case 6:
		name := s.name()
		return fmt.Sprint("Sync ", d.Sync(name)), fmt.Sprint("Sync ", m.sync(name))
	case 7:
		from, to := s.name(), s.name()
		return fmt.Sprint("Rename ", d.Rename(from, to)), fmt.Sprint("Rename ", m.rename(from, to))
	case 8:
		name := s.name()
		return fmt.Sprint("Delete ", d.Delete(name)), fmt.Sprint("Delete ", m.delete(name))
	case 9:
		at, kind, more := s.number(), s.next()%4, s.number()
		d.Arm(at, kind, more)
		m.arm(at, kind, more)
		return "Arm", "Arm"
	case 10:
		d.Off()
		m.off()
		return "Off", "Off"
	case 11:
		keeps := make([]int, s.next()%4)
		for i := range keeps {
			keeps[i] = s.number()
		}
		d.On(keeps...)
		m.on(keeps)
		return "On", "On"
	case 12:
		name, at, by := s.name(), s.number(), byte(s.next())
		return fmt.Sprint("Flip ", d.Flip(name, at, by)), fmt.Sprint("Flip ", m.flip(name, at, by))
	default:
		name, text := s.name(), s.text()
		return fmt.Sprint("Lay ", d.Lay(name, text)), fmt.Sprint("Lay ", m.lay(name, text))
	}
}

// follow plays a script on a disk and on the model, and holds all that can be
// told of both against each other behind each call.
func follow(t *testing.T, room int, bytes []byte) {
	t.Helper()
	d, m := plank.New(room), &model{room: min(max(room, 0), mostRoom)}
	s := &script{bytes}
	for i := 0; len(s.rest) > 0; i++ {
		got, want := step(d, m, s)
		if got != want {
			t.Fatalf("call %d: got %s, want %s", i, got, want)
		}
		if d.Ops() != m.ops {
			t.Fatalf("call %d, %s: got %d operations, want %d", i, got, d.Ops(), m.ops)
		}
		if show(d) != m.show() {
			t.Fatalf("call %d, %s:\ngot  %s\nwant %s", i, got, show(d), m.show())
		}
	}
}

// scattered are bytes without a pattern, the same ones at each run.
func scattered(seed uint64, n int) []byte {
	list := make([]byte, n)
	seed = seed*0x9E3779B97F4A7C15 + 1
	for i := range list {
		seed ^= seed << 13
		seed ^= seed >> 7
		seed ^= seed << 17
		list[i] = byte(seed >> 32)
	}
	return list
}

// All of the chapter, in scripts of many calls.

func TestScripts(t *testing.T) {
	for i := range 400 {
		follow(t, i%120-5, scattered(uint64(i), 1500))
	}
}

// The same calls always come to the same, however a map is gone through.
func TestScriptsComeToTheSame(t *testing.T) {
	for i := range 20 {
		bytes := scattered(uint64(i), 3000)
		var first string
		for run := range 10 {
			d, m, s := plank.New(100), &model{room: 100}, &script{bytes}
			for len(s.rest) > 0 {
				step(d, m, s)
			}
			if run == 0 {
				first = show(d)
			}
			must(t, "the disk at its end", show(d), first)
		}
	}
}

// P1, and all of the above at any arguments.

func FuzzScripts(f *testing.F) {
	f.Add(20, []byte("\x00\x00\x02\x00\x05\x06\x00\x02\x00\x03\x0a\x0b\x01\x05"))
	f.Add(60, scattered(7, 200))
	f.Add(-1, scattered(8, 200))
	f.Fuzz(follow)
}

func FuzzAnyArguments(f *testing.F) {
	f.Add("a", "b", "text", 0, 1, 2)
	f.Add("", strings.Repeat("n", longestName+1), "\xff\x00", -1, 1<<62, -1<<63)
	f.Fuzz(func(t *testing.T, name, other, text string, x, y, z int) {
		d := plank.New(x)
		for _, off := range []bool{false, true, false} {
			d.Create(name)
			d.Append(name, text)
			checkRead(t, d, name, y, z)
			checkRead(t, d, other, z, y)
			d.Flip(name, y, byte(z))
			d.Lay(other, text)
			d.Append(other, text)
			d.Arm(y, z, x)
			d.Sync(name)
			d.Arm(z, x, y)
			d.Rename(other, name)
			if off {
				d.Off()
				checkPower(t, d, x, y, z)
			}
			d.Delete(other)
			if d.Used() > mostRoom || d.Used() < 0 || d.Used() > max(x, 0) {
				t.Fatalf("%d bytes in a room of %d", d.Used(), x)
			}
		}
	})
}

// checkRead holds what is read against all of the file.
func checkRead(t *testing.T, d *plank.Plank, name string, at, n int) {
	t.Helper()
	s, e := d.Read(name, at, n)
	if e != api.OK {
		must(t, "bytes beside an error", s, "")
		return
	}
	if !strings.HasPrefix(d.Bytes(name)[at:], s) || len(s) > n {
		t.Fatalf("Read(%q, %d, %d) is %q", name, at, n, s)
	}
	if len(s) < n && at+len(s) != d.Size(name) {
		t.Fatalf("Read(%q, %d, %d) ends too early", name, at, n)
	}
}
