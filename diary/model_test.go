package diary_test

import (
	"fmt"
	"slices"
	"strings"
	"testing"

	"manciple/api"
	"manciple/diary"
	"manciple/plank"
	"manciple/slip"
)

// model is the document's sentences once more, in another way: the log as the
// list of its slips, and the operations of each call as a list that is made
// on a disk of its own. With nil for marks there is no log.
type model struct {
	disk  *plank.Plank
	marks []mark
	sick  bool
}

// mark is a slip of the log, and whether it is known to be safe.
type mark struct {
	x    api.Slip
	safe bool
}

// act is an operation of a disk; text is what is appended.
type act struct {
	name string
	file string
	text string
}

// do makes all acts, up to the first error.
func (m *model) do(acts ...act) api.Errno {
	for _, a := range acts {
		e := api.OK
		switch a.name {
		case "create":
			e = m.disk.Create(a.file)
		case "append":
			e = m.disk.Append(a.file, a.text)
		case "read":
			_, e = m.disk.Read(a.file, 0, 1<<22)
		case "sync":
			e = m.disk.Sync(a.file)
		case "delete":
			e = m.disk.Delete(a.file)
		case "rename":
			e = m.disk.Rename(a.file, a.text)
		}
		if e != api.OK {
			return e
		}
	}
	return api.OK
}

func (m *model) has(file string) bool { return slices.Contains(m.disk.Names(), file) }

func (m *model) isNil() bool { return m.marks == nil }

// marked is never nil, so that an empty log isn't taken for none.
func marked(list []api.Slip) []mark {
	marks := []mark{}
	for _, x := range list {
		marks = append(marks, mark{x, true})
	}
	return marks
}

// open changes the model only if it goes well, as the calls of the test do.
func (m *model) open() ([]api.Slip, api.Errno) {
	var acts []act
	if m.has("diary.new") {
		acts = append(acts, act{name: "delete", file: "diary.new"})
	}
	if !m.has("diary") {
		acts = append(acts, act{name: "create", file: "diary"})
	}
	acts = append(acts, act{name: "read", file: "diary"}, act{name: "sync", file: "diary"})
	if e := m.do(acts...); e != api.OK {
		return nil, e
	}
	var list []api.Slip
	rest := m.disk.Bytes("diary")
	for {
		x, n, e := slip.Read(rest)
		if e != api.OK {
			break
		}
		list, rest = append(list, x), rest[n:]
	}
	m.marks, m.sick = marked(list), rest != ""
	return list, api.OK
}

func (m *model) add(x api.Slip) api.Errno {
	record, wrong := slip.Write(x)
	switch {
	case m.isNil():
		return api.ErrNil
	case m.sick:
		return api.ErrState
	case wrong != api.OK:
		return api.ErrArg
	}
	e := m.do(act{"append", "diary", record})
	if e != api.OK {
		m.sick = true
		return e
	}
	m.marks = append(m.marks, mark{x, false})
	return api.OK
}

func (m *model) sync() api.Errno {
	switch {
	case m.isNil():
		return api.ErrNil
	case m.sick:
		return api.ErrState
	case m.sure() == len(m.marks):
		return api.OK
	}
	e := m.do(act{name: "sync", file: "diary"})
	if e != api.OK {
		m.sick = true
		return e
	}
	for i := range m.marks {
		m.marks[i].safe = true
	}
	return api.OK
}

func (m *model) rewrite(list []api.Slip) api.Errno {
	if m.isNil() {
		return api.ErrNil
	}
	all := ""
	for _, x := range list {
		record, e := slip.Write(x)
		if e != api.OK {
			return api.ErrArg
		}
		all += record
	}
	var acts []act
	if m.has("diary.new") {
		acts = append(acts, act{name: "delete", file: "diary.new"})
	}
	acts = append(acts, act{name: "create", file: "diary.new"})
	if len(list) > 0 {
		acts = append(acts, act{"append", "diary.new", all})
	}
	acts = append(acts, act{name: "sync", file: "diary.new"}, act{"rename", "diary.new", "diary"})
	e := m.do(acts...)
	if e == api.OK {
		m.marks, m.sick = marked(list), false
	}
	return e
}

func (m *model) sure() int {
	n := 0
	for n < len(m.marks) && m.marks[n].safe {
		n++
	}
	return n
}

func (m *model) size() int {
	n := 0
	for _, k := range m.marks {
		record, _ := slip.Write(k.x)
		n += len(record)
	}
	return n
}

func (m *model) show() string {
	return fmt.Sprintf("%d slips, %d sure, %d bytes, sick %v", len(m.marks), m.sure(), m.size(), m.isNil() || m.sick)
}

func show(l *diary.Diary) string {
	return fmt.Sprintf("%d slips, %d sure, %d bytes, sick %v", l.Len(), l.Sure(), l.Size(), l.Sick())
}

// showDisk tells all of a disk that can be told without an operation.
func showDisk(d *plank.Plank) string {
	var b strings.Builder
	for _, name := range d.Names() {
		fmt.Fprintf(&b, "%q: %q, %d of %d safe; ", name, d.Bytes(name), d.Safe(name), d.Size(name))
	}
	fmt.Fprintf(&b, "%d operations, down %v", d.Ops(), d.Down())
	return b.String()
}

// script tells calls by bytes; behind their end all are 0.
type script struct{ rest []byte }

func (s *script) next() int {
	if len(s.rest) == 0 {
		return 0
	}
	b := s.rest[0]
	s.rest = s.rest[1:]
	return int(b)
}

// slip is a good one, now and then one that can't be.
func (s *script) slip() api.Slip {
	n := s.next()
	if n%32 == 31 {
		return api.Slip{Kind: api.SlipGone, At: n}
	}
	list := plain()
	x := list[n%len(list)]
	x.Digest[0] ^= x.Digest[1] & byte(n)
	return x
}

func (s *script) slips() []api.Slip {
	var list []api.Slip
	for range s.next() % 6 {
		list = append(list, s.slip())
	}
	return list
}

// pair is a log and its model, each with a disk of its own.
type pair struct {
	log  *diary.Diary
	disk *plank.Plank
	m    *model
}

func newPair(room int) *pair {
	return &pair{nil, plank.New(room), &model{disk: plank.New(room)}}
}

// both does the same with both disks.
func (p *pair) both(change func(d *plank.Plank)) {
	change(p.disk)
	change(p.m.disk)
}

// step makes one call of both, and tells what each answered.
func (p *pair) step(s *script) (got, want string) {
	switch op := s.next() % 16; op {
	case 0, 1, 2, 3, 4:
		x := s.slip()
		return fmt.Sprint("Add ", p.log.Add(x)), fmt.Sprint("Add ", p.m.add(x))
	case 5, 6:
		return fmt.Sprint("Sync ", p.log.Sync()), fmt.Sprint("Sync ", p.m.sync())
	case 7, 8:
		list := s.slips()
		return fmt.Sprint("Rewrite ", p.log.Rewrite(list...)), fmt.Sprint("Rewrite ", p.m.rewrite(list))
	case 9, 10:
		l, list, e := diary.Open(p.disk)
		if e == api.OK {
			p.log = l
		}
		other, f := p.m.open()
		return fmt.Sprint("Open ", l != nil, list, e), fmt.Sprint("Open ", f == api.OK, other, f)
	default:
		p.around(op, s)
		return "", ""
	}
}

// around is what happens to a disk beside the log's calls.
func (p *pair) around(op int, s *script) {
	n, k := s.next(), s.next()
	switch op {
	case 11:
		p.both(func(d *plank.Plank) { d.Arm(n%7, k%3, k/3%4) })
	case 12:
		p.both(func(d *plank.Plank) { d.Off() })
	case 13, 14:
		p.both(func(d *plank.Plank) { d.On(n, k) })
	default:
		p.both(func(d *plank.Plank) { touch(d, n, k) })
	}
}

func touch(d *plank.Plank, n, k int) {
	switch n % 6 {
	case 0:
		d.Flip("diary", k, 1)
	case 1:
		d.Flip("diary.new", k, 1)
	case 2:
		d.Lay("diary.new", strings.Repeat("x", k))
	case 3:
		d.Lay("diary", strings.Repeat("\x00", k%9))
	case 4:
		d.Lay("other", strings.Repeat("y", k))
	case 5:
		d.Delete([]string{"diary", "diary.new", "other"}[k%3])
	}
}

// follow plays a script on a log and on the model, and holds all that can be
// told of both against each other behind each call.
func follow(t *testing.T, room int, bytes []byte) {
	t.Helper()
	p, s := newPair(room), &script{bytes}
	for i := 0; len(s.rest) > 0; i++ {
		got, want := p.step(s)
		if got != want {
			t.Fatalf("call %d: got %s, want %s", i, got, want)
		}
		if show(p.log) != p.m.show() {
			t.Fatalf("call %d, %s: got %s, want %s", i, got, show(p.log), p.m.show())
		}
		if showDisk(p.disk) != showDisk(p.m.disk) {
			t.Fatalf("call %d, %s:\ngot  %s\nwant %s", i, got, showDisk(p.disk), showDisk(p.m.disk))
		}
	}
}

// scattered are bytes without a pattern, the same ones at each run.
func scattered(seed uint64, n int) []byte {
	list := make([]byte, n)
	seed = seed*0x9E3779B97F4A7C15 + 1
	for i := range list {
		seed ^= seed << 13
		seed ^= seed >> 7
		seed ^= seed << 17
		list[i] = byte(seed >> 32)
	}
	return list
}

// All of the chapter, in scripts of many calls.

func TestScripts(t *testing.T) {
	for i := range 300 {
		follow(t, i%7*150, append([]byte{9}, scattered(uint64(i), 1200)...))
	}
}

// Without a log at first.
func TestScriptsOfNoLog(t *testing.T) {
	for i := range 20 {
		follow(t, 500, scattered(uint64(1000+i), 300))
	}
}

func FuzzScripts(f *testing.F) {
	f.Add(1000, []byte("\x09\x00\x04\x00\x05\x05\x00\x03\x0c\x00\x00\x0d\x07\x00\x09"))
	f.Add(200, scattered(7, 200))
	f.Add(-1, scattered(8, 200))
	f.Fuzz(follow)
}
