package plank_test

import (
	"fmt"
	"math"
	"slices"
	"strings"
	"testing"

	"manciple/api"
	"manciple/plank"
)

const (
	longestName = 80
	mostFiles   = 200
	mostRoom    = 1 << 22
	farthest    = 1 << 40
)

// goodNames and badNames are names at their edges; bytes may be any.
func goodNames() []string {
	return []string{"a", " ", "\x00", "\xff", "/", "..", "a/b", "caf\u00e9", "\xc3", "a\x00", "temp-1", strings.Repeat("n", longestName-1), strings.Repeat("n", longestName), strings.Repeat("\xff", longestName)}
}

func badNames() []string {
	return []string{"", strings.Repeat("n", longestName+1), strings.Repeat("\xff", longestName+1), strings.Repeat("n", 5000)}
}

// show tells all of a disk that can be told without an operation, but for
// the number of these.
func show(d *plank.Plank) string {
	var b strings.Builder
	for _, name := range d.Names() {
		fmt.Fprintf(&b, "%q: %q, %d of %d safe; ", name, d.Bytes(name), d.Safe(name), d.Size(name))
	}
	fmt.Fprintf(&b, "used %d, down %v", d.Used(), d.Down())
	return b.String()
}

// ok fails the test unless all calls went well.
func ok(t *testing.T, errors ...api.Errno) {
	t.Helper()
	for i, e := range errors {
		if e != api.OK {
			t.Fatalf("call %d: error %d", i+1, e)
		}
	}
}

// must fails the test unless a call answered so.
func must(t *testing.T, what string, got, want any) {
	t.Helper()
	if got != want {
		t.Errorf("%s: got %v, want %v", what, got, want)
	}
}

// filled makes a disk with one file, of safe and unsafe bytes.
func filled(t *testing.T, room int, name, safe, loose string) *plank.Plank {
	t.Helper()
	d := plank.New(room)
	ok(t, d.Create(name), d.Append(name, safe), d.Sync(name), d.Append(name, loose))
	return d
}

// numbered makes a disk with n empty files.
func numbered(t *testing.T, n int) *plank.Plank {
	t.Helper()
	d := plank.New(mostRoom)
	for i := range n {
		ok(t, d.Create(fmt.Sprint("f", i)))
	}
	return d
}

// operation is a call of one of the six, told without its file's name.
type operation struct {
	name string
	call func(d *plank.Plank, name string) api.Errno
}

func operations() []operation {
	return []operation{
		{"Create", func(d *plank.Plank, name string) api.Errno { return d.Create(name) }},
		{"Append", func(d *plank.Plank, name string) api.Errno { return d.Append(name, "s") }},
		{"Append of nothing", func(d *plank.Plank, name string) api.Errno { return d.Append(name, "") }},
		{"Read", func(d *plank.Plank, name string) api.Errno { _, e := d.Read(name, 0, 1); return e }},
		{"Sync", func(d *plank.Plank, name string) api.Errno { return d.Sync(name) }},
		{"Rename from", func(d *plank.Plank, name string) api.Errno { return d.Rename(name, "other") }},
		{"Rename to", func(d *plank.Plank, name string) api.Errno { return d.Rename("file", name) }},
		{"Rename to itself", func(d *plank.Plank, name string) api.Errno { return d.Rename(name, name) }},
		{"Delete", func(d *plank.Plank, name string) api.Errno { return d.Delete(name) }},
	}
}

// P7.1

func TestNewIsEmptyAndOn(t *testing.T) {
	for _, room := range []int{math.MinInt, -1, 0, 1, 20, mostRoom, math.MaxInt} {
		d := plank.New(room)
		if d == nil {
			t.Fatalf("New(%d) is nil", room)
		}
		must(t, "all of it", show(d), "used 0, down false")
		must(t, "files", len(d.Names()), 0)
		must(t, "operations", d.Ops(), 0)
		must(t, "Size of no file", d.Size("a"), -1)
	}
}

func TestRoom(t *testing.T) {
	rooms := []struct{ told, room int }{
		{math.MinInt, 0}, {-mostRoom, 0}, {-1, 0}, {0, 0}, {1, 1}, {2, 2}, {1000, 1000},
		{mostRoom - 1, mostRoom - 1}, {mostRoom, mostRoom}, {mostRoom + 1, mostRoom}, {2 * mostRoom, mostRoom}, {math.MaxInt, mostRoom},
	}
	for _, r := range rooms {
		d := plank.New(r.told)
		ok(t, d.Create("a"))
		must(t, fmt.Sprint("one byte more than the room of ", r.told), d.Append("a", strings.Repeat("x", r.room+1)), api.ErrFull)
		ok(t, d.Append("a", strings.Repeat("x", r.room)))
		must(t, "a byte behind them", d.Append("a", "x"), api.ErrFull)
		must(t, "Used", d.Used(), r.room)

		laid := plank.New(r.told)
		must(t, fmt.Sprint("Lay of more than the room of ", r.told), laid.Lay("a", strings.Repeat("x", r.room+1)), api.ErrFull)
		ok(t, laid.Lay("a", strings.Repeat("x", r.room)))
	}
}

func TestDisksShareNothing(t *testing.T) {
	one, other := plank.New(10), plank.New(10)
	ok(t, one.Create("a"), one.Append("a", "abc"))
	one.Arm(1, api.FaultIO, 5)
	must(t, "the other one", show(other), "used 0, down false")
	must(t, "its operations", other.Ops(), 0)
	ok(t, other.Create("a"))
	one.Off()
	ok(t, other.Append("a", "x"))
}

// P7.2

func TestNames(t *testing.T) {
	for _, name := range goodNames() {
		d := plank.New(100)
		ok(t, d.Create(name), d.Append(name, "abc"), d.Sync(name), d.Rename(name, "file"), d.Rename("file", name))
		s, e := d.Read(name, 0, 3)
		must(t, fmt.Sprintf("Read of %q", name), s, "abc")
		ok(t, e)
		must(t, "Names", fmt.Sprintf("%q", d.Names()), fmt.Sprintf("%q", []string{name}))
		ok(t, d.Delete(name), d.Lay(name, "x"))
	}
}

func TestNoNames(t *testing.T) {
	d := filled(t, 100, "file", "abc", "de")
	before, ops := show(d), d.Ops()
	for _, name := range badNames() {
		for _, o := range operations() {
			must(t, fmt.Sprintf("%s of %.10q", o.name, name), o.call(d, name), api.ErrArg)
		}
		must(t, "Rename of no file", d.Rename("none", name), api.ErrArg)
	}
	must(t, "the disk", show(d), before)
	must(t, "operations", d.Ops(), ops)
}

func TestReadOutsideOfNumbers(t *testing.T) {
	d := filled(t, 100, "file", "abc", "de")
	ops := d.Ops()
	for _, x := range []int{-1, -2, math.MinInt} {
		for _, y := range []int{x, 0, 1, 3, 99, math.MaxInt} {
			for _, name := range []string{"file", "none"} {
				s, e := d.Read(name, x, y)
				must(t, fmt.Sprint("Read at ", x), e, api.ErrArg)
				must(t, "its bytes", s, "")
				s, e = d.Read(name, y, x)
				must(t, fmt.Sprint("Read of ", x), e, api.ErrArg)
				must(t, "its bytes", s, "")
			}
		}
	}
	must(t, "operations", d.Ops(), ops)
	d.Off()
	_, e := d.Read("file", 0, -1)
	must(t, "without power", e, api.ErrArg)
}

func TestNilAheadOfAll(t *testing.T) {
	var d *plank.Plank
	for _, o := range operations() {
		for _, name := range append(badNames(), "file") {
			must(t, o.name, o.call(d, name), api.ErrNil)
		}
	}
	s, e := d.Read("", -1, -1)
	must(t, "Read", e, api.ErrNil)
	must(t, "its bytes", s, "")
}

// Without power a name that is none is told first; what is refused isn't
// counted, and uses up no fault.
func TestDown(t *testing.T) {
	d := filled(t, 5, "file", "abc", "de")
	d.Off()
	d.Arm(1, api.FaultIO, 0)
	before, ops := show(d), d.Ops()
	for _, o := range operations() {
		for _, name := range badNames() {
			must(t, o.name+" of no name", o.call(d, name), api.ErrArg)
		}
		for _, name := range []string{"file", "none"} {
			must(t, o.name+" without power", o.call(d, name), api.ErrDown)
		}
	}
	s, e := d.Read("file", 99, 1)
	must(t, "Read far off", e, api.ErrDown)
	must(t, "its bytes", s, "")
	must(t, "the disk", show(d), before)
	must(t, "operations", d.Ops(), ops)
	d.On(2)
	must(t, "the first operation with power", d.Sync("file"), api.ErrIO)
	must(t, "the second one", d.Sync("file"), api.OK)
}

// A fault comes ahead of all that the operation itself would find.
func TestFaultAheadOfTheOperation(t *testing.T) {
	calls := []struct {
		what string
		call func(d *plank.Plank) api.Errno
	}{
		{"Create of a new file", func(d *plank.Plank) api.Errno { return d.Create("new") }},
		{"Create of a file that is there", func(d *plank.Plank) api.Errno { return d.Create("file") }},
		{"Append", func(d *plank.Plank) api.Errno { return d.Append("file", "f") }},
		{"Append of too much", func(d *plank.Plank) api.Errno { return d.Append("file", strings.Repeat("f", 99)) }},
		{"Append to no file", func(d *plank.Plank) api.Errno { return d.Append("none", "f") }},
		{"Read", func(d *plank.Plank) api.Errno { _, e := d.Read("file", 0, 5); return e }},
		{"Read far off", func(d *plank.Plank) api.Errno { _, e := d.Read("file", 6, 5); return e }},
		{"Read of no file", func(d *plank.Plank) api.Errno { _, e := d.Read("none", 0, 5); return e }},
		{"Sync", func(d *plank.Plank) api.Errno { return d.Sync("file") }},
		{"Sync of no file", func(d *plank.Plank) api.Errno { return d.Sync("none") }},
		{"Rename", func(d *plank.Plank) api.Errno { return d.Rename("file", "new") }},
		{"Rename over a file", func(d *plank.Plank) api.Errno { return d.Rename("file", "second") }},
		{"Rename of no file", func(d *plank.Plank) api.Errno { return d.Rename("none", "file") }},
		{"Delete", func(d *plank.Plank) api.Errno { return d.Delete("file") }},
		{"Delete of no file", func(d *plank.Plank) api.Errno { return d.Delete("none") }},
	}
	for _, c := range calls {
		d := filled(t, 10, "file", "abc", "de")
		ok(t, d.Create("second"))
		before, ops := show(d), d.Ops()

		d.Arm(1, api.FaultIO, 0)
		must(t, c.what+" that fails", c.call(d), api.ErrIO)
		must(t, "the disk behind it", show(d), before)
		must(t, "it is counted", d.Ops(), ops+1)

		d.Arm(1, api.FaultPower, 0)
		must(t, c.what+" in which the power goes", c.call(d), api.ErrDown)
		must(t, "the disk behind it", show(d), strings.Replace(before, "down false", "down true", 1))
		must(t, "it is counted", d.Ops(), ops+2)
		must(t, c.what+" without power", c.call(d), api.ErrDown)
		must(t, "it isn't counted", d.Ops(), ops+2)
	}
}

func TestReadTellsNothingBesideAnError(t *testing.T) {
	for _, kind := range []int{api.FaultIO, api.FaultPower} {
		d := filled(t, 10, "file", "abc", "de")
		d.Arm(1, kind, 0)
		s, e := d.Read("file", 0, 5)
		if s != "" || e == api.OK {
			t.Errorf("fault %d: %q, error %d", kind, s, e)
		}
	}
}

func TestOperationsAreCounted(t *testing.T) {
	d := plank.New(5)
	steps := []struct {
		e, want api.Errno
	}{
		{d.Create("a"), api.OK},
		{d.Create("a"), api.ErrTwice},
		{d.Append("b", "x"), api.ErrNone},
		{d.Append("a", "123456"), api.ErrFull},
		{d.Append("a", "12345"), api.OK},
		{d.Append("a", ""), api.OK},
		{d.Sync("b"), api.ErrNone},
		{d.Sync("a"), api.OK},
		{d.Sync("a"), api.OK},
		{d.Rename("b", "a"), api.ErrNone},
		{d.Rename("a", "a"), api.OK},
		{d.Delete("b"), api.ErrNone},
		{d.Delete("a"), api.OK},
	}
	for i, s := range steps {
		must(t, fmt.Sprint("step ", i), s.e, s.want)
	}
	must(t, "operations", d.Ops(), len(steps))
	d.Read("a", 0, 1)
	must(t, "and a Read", d.Ops(), len(steps)+1)

	d.Lay("a", "x")
	d.Flip("a", 0, 1)
	d.Size("a")
	d.Safe("a")
	d.Bytes("a")
	d.Names()
	d.Used()
	d.Down()
	d.Arm(9, api.FaultIO, 0)
	d.Off()
	d.On(1)
	must(t, "what is no operation", d.Ops(), len(steps)+1)
	ok(t, d.Sync("a"))
	must(t, "behind a loss of power", d.Ops(), len(steps)+2)
}

func TestCreate(t *testing.T) {
	d := filled(t, 10, "a", "abc", "de")
	before := show(d)
	must(t, "a file that is there", d.Create("a"), api.ErrTwice)
	must(t, "the disk", show(d), before)
	ok(t, d.Create("b"))
	must(t, "Size", d.Size("b"), 0)
	must(t, "Safe", d.Safe("b"), 0)
	must(t, "Bytes", d.Bytes("b"), "")

	d.Off()
	d.On()
	must(t, "an empty file outlasts the power", d.Size("b"), 0)

	full := filled(t, 3, "a", "abc", "")
	must(t, "no room is needed", full.Create("b"), api.OK)
}

func TestCreateOfManyFiles(t *testing.T) {
	d := numbered(t, mostFiles-1)
	ok(t, d.Create("last"))
	must(t, "files", len(d.Names()), mostFiles)
	must(t, "one more", d.Create("more"), api.ErrFull)
	must(t, "it isn't there", d.Size("more"), -1)
	must(t, "one that is there", d.Create("last"), api.ErrTwice)
	ok(t, d.Delete("f7"), d.Create("more"))
	must(t, "one more", d.Create("f7"), api.ErrFull)
	ok(t, d.Rename("more", "f8"))
	must(t, "files", len(d.Names()), mostFiles-1)
	ok(t, d.Create("f7"))
	must(t, "one more", d.Create("more"), api.ErrFull)
}

func TestAppend(t *testing.T) {
	d := plank.New(10)
	must(t, "no file", d.Append("a", "x"), api.ErrNone)
	must(t, "no file, nothing", d.Append("a", ""), api.ErrNone)
	must(t, "no file, too much", d.Append("a", strings.Repeat("x", 11)), api.ErrNone)
	must(t, "no file is made", len(d.Names()), 0)

	ok(t, d.Create("a"), d.Append("a", "ab"), d.Append("a", ""), d.Append("a", "\x00\xff"))
	must(t, "Bytes", d.Bytes("a"), "ab\x00\xff")
	must(t, "Safe", d.Safe("a"), 0)
	ok(t, d.Sync("a"), d.Append("a", "cd"))
	must(t, "Bytes", d.Bytes("a"), "ab\x00\xffcd")
	must(t, "Safe", d.Safe("a"), 4)
}

func TestAppendToTheEndOfTheRoom(t *testing.T) {
	d := plank.New(10)
	ok(t, d.Create("a"), d.Create("b"), d.Append("a", "123456"), d.Append("b", "123"))
	before := show(d)
	must(t, "two bytes", d.Append("a", "xy"), api.ErrFull)
	must(t, "two bytes of the other one", d.Append("b", "xy"), api.ErrFull)
	must(t, "nothing is appended", show(d), before)
	ok(t, d.Append("b", "4"), d.Append("a", ""), d.Append("b", ""))
	must(t, "one byte more", d.Append("a", "x"), api.ErrFull)
	must(t, "Used", d.Used(), 10)

	ok(t, d.Delete("b"))
	must(t, "more than was freed", d.Append("a", "xxxxx"), api.ErrFull)
	ok(t, d.Append("a", "xxxx"))
	must(t, "Used", d.Used(), 10)
}

func TestRoomIsFreedByRenameAndPower(t *testing.T) {
	d := plank.New(10)
	ok(t, d.Create("a"), d.Create("b"), d.Append("a", "123456"), d.Append("b", "1234"), d.Rename("b", "a"))
	must(t, "Used", d.Used(), 4)
	must(t, "too much", d.Append("a", "1234567"), api.ErrFull)
	ok(t, d.Append("a", "123456"))
	d.Off()
	d.On(3)
	must(t, "Used behind a loss of power", d.Used(), 3)
	must(t, "too much", d.Append("a", "12345678"), api.ErrFull)
	ok(t, d.Append("a", "1234567"))
	must(t, "Bytes", d.Bytes("a"), "1231234567")
}

func TestRead(t *testing.T) {
	whole := "abcde"
	d := filled(t, 10, "a", whole[:3], whole[3:])
	for at := range len(whole) + 1 {
		for n := range len(whole) + 2 {
			s, e := d.Read("a", at, n)
			ok(t, e)
			must(t, fmt.Sprintf("Read at %d of %d", at, n), s, whole[at:min(at+n, len(whole))])
		}
		for _, n := range []int{math.MaxInt, math.MaxInt - 1, math.MaxInt32, mostRoom} {
			s, e := d.Read("a", at, n)
			ok(t, e)
			must(t, fmt.Sprintf("Read at %d of %d", at, n), s, whole[at:])
		}
	}
	for _, at := range []int{6, 7, 1000, math.MaxInt - 1, math.MaxInt} {
		for _, n := range []int{0, 1, math.MaxInt} {
			s, e := d.Read("a", at, n)
			must(t, fmt.Sprintf("Read at %d of %d", at, n), e, api.ErrRange)
			must(t, "its bytes", s, "")
		}
	}
	for _, at := range []int{0, 1, math.MaxInt} {
		s, e := d.Read("b", at, 1)
		must(t, "Read of no file", e, api.ErrNone)
		must(t, "its bytes", s, "")
	}
	must(t, "it turns nothing", show(d), `"a": "abcde", 3 of 5 safe; used 5, down false`)
}

func TestSync(t *testing.T) {
	d := filled(t, 20, "a", "abc", "de")
	ok(t, d.Create("b"), d.Append("b", "xyz"))
	must(t, "no file", d.Sync("c"), api.ErrNone)
	ok(t, d.Sync("a"))
	must(t, "Safe", d.Safe("a"), 5)
	must(t, "Safe of another file", d.Safe("b"), 0)
	ok(t, d.Sync("a"))
	d.Off()
	d.On()
	must(t, "the disk", show(d), `"a": "abcde", 5 of 5 safe; "b": "", 0 of 0 safe; used 5, down false`)
}

func TestRename(t *testing.T) {
	d := filled(t, 20, "a", "abc", "de")
	ok(t, d.Create("b"), d.Append("b", "xyz"), d.Sync("b"))
	before := show(d)
	must(t, "no file", d.Rename("c", "a"), api.ErrNone)
	must(t, "no file, to itself", d.Rename("c", "c"), api.ErrNone)
	must(t, "the disk", show(d), before)
	ok(t, d.Rename("a", "a"))
	must(t, "to itself", show(d), before)

	ok(t, d.Rename("a", "c"))
	must(t, "to a new name", show(d), `"b": "xyz", 3 of 3 safe; "c": "abcde", 3 of 5 safe; used 8, down false`)
	ok(t, d.Rename("c", "b"))
	must(t, "over a file", show(d), `"b": "abcde", 3 of 5 safe; used 5, down false`)
	must(t, "the old name", d.Sync("c"), api.ErrNone)
	ok(t, d.Append("b", "f"))
	d.Off()
	d.On(1)
	must(t, "behind a loss of power", show(d), `"b": "abcd", 4 of 4 safe; used 4, down false`)
	ok(t, d.Create("c"), d.Append("c", "1"), d.Append("b", "2"))
	must(t, "a new file of the old name", show(d), `"b": "abcd2", 4 of 5 safe; "c": "1", 0 of 1 safe; used 6, down false`)
}

func TestRenameOfOneOfManyFiles(t *testing.T) {
	d := numbered(t, mostFiles)
	ok(t, d.Rename("f0", "new"))
	must(t, "files", len(d.Names()), mostFiles)
	must(t, "the old name", d.Size("f0"), -1)
	must(t, "the new one", d.Size("new"), 0)
}

func TestDelete(t *testing.T) {
	d := filled(t, 20, "a", "abc", "de")
	ok(t, d.Create("b"), d.Append("b", "xyz"))
	must(t, "no file", d.Delete("c"), api.ErrNone)
	ok(t, d.Delete("a"))
	must(t, "the disk", show(d), `"b": "xyz", 0 of 3 safe; used 3, down false`)
	must(t, "once more", d.Delete("a"), api.ErrNone)
	d.Off()
	d.On(3)
	must(t, "behind a loss of power", show(d), `"b": "xyz", 3 of 3 safe; used 3, down false`)
	ok(t, d.Create("a"))
	must(t, "a new file of that name", d.Bytes("a"), "")
	must(t, "its safe bytes", d.Safe("a"), 0)
}

// P7.3

// strikes plays operations on an armed disk, and tells what each answered.
func strikes(d *plank.Plank, n int) []api.Errno {
	list := make([]api.Errno, n)
	for i := range list {
		list[i] = d.Sync("a")
	}
	return list
}

func TestArm(t *testing.T) {
	const none, io, down = api.OK, api.ErrIO, api.ErrDown
	cases := []struct {
		at, kind, more int
		want           []api.Errno
	}{
		{1, api.FaultIO, 0, []api.Errno{io, none, none, none, none}},
		{2, api.FaultIO, 0, []api.Errno{none, io, none, none, none}},
		{1, api.FaultIO, 1, []api.Errno{io, io, none, none, none}},
		{2, api.FaultIO, 2, []api.Errno{none, io, io, io, none}},
		{4, api.FaultIO, 9, []api.Errno{none, none, none, io, io}},
		{5, api.FaultIO, 0, []api.Errno{none, none, none, none, io}},
		{6, api.FaultIO, 0, []api.Errno{none, none, none, none, none}},
		{2, api.FaultIO, -1, []api.Errno{none, io, none, none, none}},
		{2, api.FaultIO, math.MinInt, []api.Errno{none, io, none, none, none}},
		{2, api.FaultIO, math.MaxInt, []api.Errno{none, io, io, io, io}},
		{2, api.FaultIO, math.MaxInt - 1, []api.Errno{none, io, io, io, io}},
		{1, api.FaultPower, 0, []api.Errno{down, down, down, down, down}},
		{3, api.FaultPower, 0, []api.Errno{none, none, down, down, down}},
		{3, api.FaultPower, 2, []api.Errno{none, none, down, down, down}},
		{3, api.FaultPower, math.MaxInt, []api.Errno{none, none, down, down, down}},
		{3, api.FaultPower, -1, []api.Errno{none, none, down, down, down}},
		{farthest, api.FaultIO, math.MaxInt, []api.Errno{none, none, none, none, none}},
		{farthest, api.FaultPower, 0, []api.Errno{none, none, none, none, none}},
	}
	for _, c := range cases {
		// What was played ahead is no part of the counting.
		for ahead := range 3 {
			d := filled(t, 10, "a", "", "")
			strikes(d, ahead)
			d.Arm(c.at, c.kind, c.more)
			if got := strikes(d, len(c.want)); !slices.Equal(got, c.want) {
				t.Errorf("Arm(%d, %d, %d) behind %d more: got %v, want %v", c.at, c.kind, c.more, ahead, got, c.want)
			}
		}
	}
}

func TestArmOfNothing(t *testing.T) {
	cases := []struct{ at, kind, more int }{
		{0, api.FaultIO, 5}, {-1, api.FaultIO, 5}, {math.MinInt, api.FaultIO, 5}, {math.MinInt, api.FaultIO, math.MaxInt},
		{farthest + 1, api.FaultIO, 5}, {math.MaxInt, api.FaultIO, 5}, {math.MaxInt, api.FaultIO, math.MaxInt},
		{0, api.FaultPower, 0}, {-1, api.FaultPower, 0}, {math.MinInt, api.FaultPower, 0}, {farthest + 1, api.FaultPower, 0}, {math.MaxInt, api.FaultPower, 0},
		{1, 0, 5}, {1, -1, 5}, {1, 3, 5}, {1, math.MinInt, 5}, {1, math.MaxInt, 5},
	}
	for _, c := range cases {
		d := filled(t, 10, "a", "", "")
		d.Arm(1, api.FaultIO, 100)
		d.Arm(c.at, c.kind, c.more)
		if got := strikes(d, 6); !slices.Equal(got, make([]api.Errno, 6)) {
			t.Errorf("Arm(%d, %d, %d): got %v", c.at, c.kind, c.more, got)
		}
	}
}

func TestArmInPlaceOfWhatWasArmed(t *testing.T) {
	d := filled(t, 10, "a", "", "")
	d.Arm(1, api.FaultPower, 0)
	d.Arm(3, api.FaultIO, 0)
	if got := strikes(d, 4); !slices.Equal(got, []api.Errno{api.OK, api.OK, api.ErrIO, api.OK}) {
		t.Error("a later one:", got)
	}
	d.Arm(1, api.FaultIO, 5)
	strikes(d, 2)
	d.Arm(2, api.FaultPower, 0)
	if got := strikes(d, 2); !slices.Equal(got, []api.Errno{api.OK, api.ErrDown}) {
		t.Error("in the midst of one:", got)
	}
}

// What is refused is no operation, and doesn't come nearer to the fault.
func TestArmCountsOperationsAlone(t *testing.T) {
	d := filled(t, 10, "a", "", "")
	d.Arm(3, api.FaultIO, 1)
	must(t, "no name", d.Sync(""), api.ErrArg)
	must(t, "no file", d.Sync("b"), api.ErrNone)
	must(t, "Lay", d.Lay("c", "x"), api.OK)
	_, e := d.Read("a", -1, 0)
	must(t, "no range", e, api.ErrArg)
	must(t, "the second one", d.Sync("a"), api.OK)
	must(t, "the third one", d.Sync("a"), api.ErrIO)
	must(t, "no name", d.Rename("a", ""), api.ErrArg)
	must(t, "the fourth one", d.Delete("b"), api.ErrIO)
	must(t, "the fifth one", d.Sync("a"), api.OK)
}

func TestOff(t *testing.T) {
	d := filled(t, 10, "a", "abc", "de")
	d.Arm(1, api.FaultIO, 5)
	d.Off()
	must(t, "the disk without power", show(d), `"a": "abcde", 3 of 5 safe; used 5, down true`)
	d.Off()
	must(t, "once more", show(d), `"a": "abcde", 3 of 5 safe; used 5, down true`)
	d.On(2)
	must(t, "nothing is armed any more", d.Sync("a"), api.OK)

	d.Off()
	d.Arm(2, api.FaultIO, 0)
	d.On()
	must(t, "armed without power", fmt.Sprint(strikes(d, 3)), fmt.Sprint([]api.Errno{api.OK, api.ErrIO, api.OK}))

	d.Off()
	d.Arm(1, api.FaultIO, 0)
	d.Off()
	d.On()
	must(t, "armed, then off once more", d.Sync("a"), api.OK)
}

func TestPowerFaultDisarms(t *testing.T) {
	d := filled(t, 10, "a", "abc", "de")
	d.Arm(1, api.FaultPower, 5)
	must(t, "the power goes", d.Sync("a"), api.ErrDown)
	must(t, "the disk", show(d), `"a": "abcde", 3 of 5 safe; used 5, down true`)
	d.On(1)
	must(t, "the disk with power", show(d), `"a": "abcd", 4 of 4 safe; used 4, down false`)
	must(t, "nothing is armed", fmt.Sprint(strikes(d, 6)), fmt.Sprint(make([]api.Errno, 6)))
}

// One file, with all numbers at and beside the edges of the modulus.
func TestOnKeeps(t *testing.T) {
	const whole, safe = "abcdefg", 3
	for _, keep := range []int{math.MinInt, -6, -5, -4, -1, 0, 1, 2, 3, 4, 5, 6, 9, 10, 14, 15, 1 << 40, math.MaxInt - 1, math.MaxInt} {
		d := filled(t, 10, "a", whole[:safe], whole[safe:])
		d.Off()
		d.On(keep)
		kept := 0
		if keep >= 0 {
			kept = int(uint64(keep) % 5)
		}
		must(t, fmt.Sprintf("On(%d)", keep), d.Bytes("a"), whole[:safe+kept])
		must(t, "Safe", d.Safe("a"), safe+kept)
		must(t, "Down", d.Down(), false)
	}
}

// The numbers go to the files that have unsafe bytes, by their names, however
// these came.
func TestOnKeepsFileByFile(t *testing.T) {
	make4 := func() *plank.Plank {
		d := plank.New(100)
		for _, name := range []string{"d", "b", "c\x00", "a", "c", "\xff", "B"} {
			ok(t, d.Create(name), d.Append(name, "12"), d.Sync(name))
		}
		for _, name := range []string{"\xff", "c\x00", "a", "c"} {
			ok(t, d.Append(name, "345"))
		}
		ok(t, d.Create("empty"))
		d.Off()
		return d
	}
	cases := []struct {
		keeps []int
		want  [4]int
	}{
		{nil, [4]int{2, 2, 2, 2}},
		{[]int{}, [4]int{2, 2, 2, 2}},
		{[]int{3}, [4]int{5, 2, 2, 2}},
		{[]int{1, 2, 3}, [4]int{3, 4, 5, 2}},
		{[]int{1, 2, 3, 6}, [4]int{3, 4, 5, 4}},
		{[]int{4, 5, 6, 7}, [4]int{2, 3, 4, 5}},
		{[]int{-1, 3, -3, 3}, [4]int{2, 5, 2, 5}},
		{[]int{0, 0, 0, 1, 3, 3, 3, 3}, [4]int{2, 2, 2, 3}},
	}
	for _, c := range cases {
		d := make4()
		d.On(c.keeps...)
		for i, name := range []string{"a", "c", "c\x00", "\xff"} {
			must(t, fmt.Sprintf("On(%v), %q", c.keeps, name), d.Bytes(name), "12345"[:c.want[i]])
			must(t, "Safe", d.Safe(name), c.want[i])
		}
		for _, name := range []string{"B", "b", "d"} {
			must(t, "a file without unsafe bytes", d.Bytes(name), "12")
		}
		must(t, "an empty file", d.Size("empty"), 0)
	}
}

func TestOnWithPowerDoesNothing(t *testing.T) {
	d := filled(t, 10, "a", "abc", "de")
	d.Arm(1, api.FaultIO, 0)
	before := show(d)
	d.On()
	d.On(1)
	d.On(0, 0, 0)
	must(t, "the disk", show(d), before)
	must(t, "what was armed", d.Sync("a"), api.ErrIO)
}

func TestOnLeavesItsNumbersAlone(t *testing.T) {
	list := []int{1, 2, 7, 8}
	d := filled(t, 10, "a", "", "abc")
	ok(t, d.Create("b"), d.Append("b", "abc"))
	d.Off()
	d.On(list[:2]...)
	must(t, "the numbers", fmt.Sprint(list), "[1 2 7 8]")
	must(t, "the disk", show(d), `"a": "a", 1 of 1 safe; "b": "ab", 2 of 2 safe; used 3, down false`)
	list[0] = 3
	ok(t, d.Append("a", "xyz"))
	d.Off()
	d.On()
	must(t, "they aren't kept", d.Bytes("a"), "a")
}

// What was lost doesn't come again with what is appended behind it.
func TestLostBytesStayLost(t *testing.T) {
	d := filled(t, 20, "a", "abc", "defgh")
	d.Off()
	d.On(1)
	ok(t, d.Append("a", "XY"))
	must(t, "Bytes", d.Bytes("a"), "abcdXY")
	d.Off()
	d.On(1)
	must(t, "Bytes", d.Bytes("a"), "abcdX")
}

// P7.4

func TestFlip(t *testing.T) {
	for by := range 256 {
		for at := range 5 {
			d := filled(t, 10, "a", "ab\x00", "\xffe")
			ok(t, d.Lay("b", "other"))
			want := []byte("ab\x00\xffe")
			want[at] ^= byte(by)
			ops := d.Ops()
			must(t, fmt.Sprintf("Flip at %d by %d", at, by), d.Flip("a", at, byte(by)), by != 0)
			must(t, "Bytes", d.Bytes("a"), string(want))
			must(t, "Safe", d.Safe("a"), 3)
			must(t, "another file", d.Bytes("b"), "other")
			must(t, "operations", d.Ops(), ops)
		}
	}
}

func TestFlipOfNoByte(t *testing.T) {
	d := filled(t, 10, "a", "abc", "de")
	ok(t, d.Create("empty"))
	before := show(d)
	for _, at := range []int{math.MinInt, -5, -1, 5, 6, math.MaxInt} {
		must(t, fmt.Sprint("at ", at), d.Flip("a", at, 1), false)
	}
	for _, name := range append(badNames(), "b", "empty", "A") {
		must(t, fmt.Sprintf("of %.10q", name), d.Flip(name, 0, 1), false)
	}
	must(t, "by 0", d.Flip("a", 0, 0), false)
	must(t, "the disk", show(d), before)
}

func TestFlipWithoutPowerAndWithFaults(t *testing.T) {
	d := filled(t, 10, "a", "abc", "de")
	d.Arm(1, api.FaultIO, 0)
	must(t, "with a fault", d.Flip("a", 0, 1), true)
	must(t, "the fault stays", d.Sync("a"), api.ErrIO)
	d.Off()
	must(t, "safe, without power", d.Flip("a", 1, 1), true)
	must(t, "unsafe, without power", d.Flip("a", 3, 1), true)
	must(t, "no byte, without power", d.Flip("a", 5, 1), false)
	d.On(1)
	must(t, "Bytes", d.Bytes("a"), "`cce")
	must(t, "what was lost", d.Flip("a", 4, 1), false)
}

// What was answered ahead of a Flip is memory of its own.
func TestFlipTurnsTheDiskAlone(t *testing.T) {
	d := plank.New(20)
	laid := strings.Repeat("x", 5)
	ok(t, d.Lay("a", laid))
	whole := d.Bytes("a")
	part, e := d.Read("a", 1, 3)
	ok(t, e)
	d.Flip("a", 2, 3)
	must(t, "Bytes", d.Bytes("a"), "xx{xx")
	must(t, "what was laid", laid, "xxxxx")
	must(t, "what was told", whole, "xxxxx")
	must(t, "what was read", part, "xxx")
}

func TestLay(t *testing.T) {
	d := filled(t, 20, "a", "abc", "de")
	ops := d.Ops()
	ok(t, d.Lay("b", "\x00\xff"))
	must(t, "a new file", show(d), `"a": "abcde", 3 of 5 safe; "b": "\x00\xff", 2 of 2 safe; used 7, down false`)
	ok(t, d.Lay("a", "xy"))
	must(t, "in place of one", show(d), `"a": "xy", 2 of 2 safe; "b": "\x00\xff", 2 of 2 safe; used 4, down false`)
	ok(t, d.Append("a", "z"), d.Lay("a", ""))
	must(t, "of nothing", show(d), `"a": "", 0 of 0 safe; "b": "\x00\xff", 2 of 2 safe; used 2, down false`)
	must(t, "operations", d.Ops(), ops+1)
	d.Off()
	d.On()
	must(t, "behind a loss of power", d.Bytes("b"), "\x00\xff")
	ok(t, d.Append("b", "!"), d.Rename("b", "a"), d.Delete("a"))
}

func TestLayOfNoName(t *testing.T) {
	d := filled(t, 5, "a", "abc", "de")
	for _, name := range badNames() {
		must(t, "no name", d.Lay(name, "x"), api.ErrArg)
		must(t, "no name, too much", d.Lay(name, "123456"), api.ErrArg)
	}
	must(t, "the disk", show(d), `"a": "abcde", 3 of 5 safe; used 5, down false`)
}

func TestLayToTheEndOfTheRoom(t *testing.T) {
	d := filled(t, 10, "a", "abc", "de")
	ok(t, d.Lay("b", "xyz"))
	before := show(d)
	must(t, "a new file, one byte too much", d.Lay("c", "123"), api.ErrFull)
	must(t, "in place of one, one byte too much", d.Lay("a", "12345678"), api.ErrFull)
	must(t, "in place of the other one", d.Lay("b", "123456"), api.ErrFull)
	must(t, "the disk", show(d), before)
	ok(t, d.Lay("a", "1234567"))
	must(t, "Used", d.Used(), 10)
	must(t, "a byte more", d.Lay("c", "1"), api.ErrFull)
	ok(t, d.Lay("c", ""), d.Lay("b", "123"), d.Lay("a", ""))
	must(t, "Used", d.Used(), 3)
}

func TestLayOfManyFiles(t *testing.T) {
	d := numbered(t, mostFiles-1)
	ok(t, d.Lay("last", "x"))
	must(t, "one more", d.Lay("more", ""), api.ErrFull)
	must(t, "it isn't there", d.Size("more"), -1)
	ok(t, d.Lay("last", "xyz"), d.Lay("f0", "a"))
	must(t, "files", len(d.Names()), mostFiles)
	must(t, "one more", d.Create("more"), api.ErrFull)
}

func TestLayWithoutPowerAndWithFaults(t *testing.T) {
	d := filled(t, 10, "a", "abc", "de")
	d.Arm(1, api.FaultPower, 0)
	ok(t, d.Lay("b", "x"))
	must(t, "the fault stays", d.Sync("a"), api.ErrDown)
	ok(t, d.Lay("a", "12"), d.Lay("c", "345"))
	must(t, "too much, without power", d.Lay("c", "12345678"), api.ErrFull)
	must(t, "no name, without power", d.Lay("", "1"), api.ErrArg)
	must(t, "Down", d.Down(), true)
	d.On()
	must(t, "the disk", show(d), `"a": "12", 2 of 2 safe; "b": "x", 1 of 1 safe; "c": "345", 3 of 3 safe; used 6, down false`)
}

func TestTellersOfNoFile(t *testing.T) {
	d := filled(t, 10, "a", "abc", "de")
	for _, name := range append(badNames(), "b", "A", "a ", "a\x00") {
		must(t, fmt.Sprintf("Size of %.10q", name), d.Size(name), -1)
		must(t, fmt.Sprintf("Safe of %.10q", name), d.Safe(name), 0)
		must(t, fmt.Sprintf("Bytes of %.10q", name), d.Bytes(name), "")
	}
	must(t, "the disk", show(d), `"a": "abcde", 3 of 5 safe; used 5, down false`)
}

func TestNamesRise(t *testing.T) {
	d := plank.New(10)
	var want []string
	for i := range mostFiles {
		name := fmt.Sprint((i * 77) % 1000)
		if i%5 == 0 {
			name = string([]byte{byte(i), byte(200 - i)})
		}
		ok(t, d.Create(name))
		want = append(want, name)
	}
	slices.SortFunc(want, strings.Compare)
	if got := d.Names(); !slices.Equal(got, want) {
		t.Errorf("got %q, want %q", got, want)
	}
	d.Off()
	if got := d.Names(); !slices.Equal(got, want) {
		t.Errorf("without power: got %q, want %q", got, want)
	}
}

func TestNamesAreNewMemory(t *testing.T) {
	d := plank.New(10)
	ok(t, d.Create("a"), d.Create("b"))
	names := d.Names()
	names[0], names[1] = "x", "y"
	must(t, "Names", fmt.Sprint(d.Names()), "[a b]")
	must(t, "Size", d.Size("x"), -1)
}

func TestNilDisk(t *testing.T) {
	var d *plank.Plank
	d.Arm(1, api.FaultIO, 1)
	d.Off()
	d.On()
	d.On(1, 2)
	must(t, "Size", d.Size("a"), -1)
	must(t, "Safe", d.Safe("a"), 0)
	must(t, "Names", len(d.Names()), 0)
	must(t, "Used", d.Used(), 0)
	must(t, "Ops", d.Ops(), 0)
	must(t, "Down", d.Down(), true)
	must(t, "Bytes", d.Bytes("a"), "")
	must(t, "Flip", d.Flip("a", 0, 1), false)
	must(t, "Lay", d.Lay("a", "s"), api.ErrNil)
	must(t, "Lay of no name", d.Lay("", "s"), api.ErrNil)
}

// P7.5

// A power cut at each operation of a script, with all numbers of kept bytes:
// each file is a beginning of what it was, with all that was safe.
func TestWhatIsSafeStays(t *testing.T) {
	const length = 14
	for cut := 1; cut <= length+1; cut++ {
		for keep := range 40 {
			d := plank.New(100)
			d.Arm(cut, api.FaultPower, 0)
			d.Create("a")
			d.Append("a", "abc")
			d.Create("b")
			d.Append("b", "1234")
			d.Sync("a")
			d.Append("a", "defg")
			d.Rename("b", "c")
			d.Sync("c")
			d.Append("c", "567")
			d.Rename("a", "c")
			d.Append("c", "hi")
			d.Create("b")
			d.Append("b", "xy")
			d.Sync("b")
			d.Off()
			checkPower(t, d, keep, keep/7)
		}
	}
}

// checkPower turns the power on, and holds each file against what it was.
func checkPower(t *testing.T, d *plank.Plank, keeps ...int) {
	t.Helper()
	names := d.Names()
	was, safe := map[string]string{}, map[string]int{}
	for _, name := range names {
		was[name], safe[name] = d.Bytes(name), d.Safe(name)
	}
	d.On(keeps...)
	if !slices.Equal(d.Names(), names) {
		t.Fatalf("files: got %q, want %q", d.Names(), names)
	}
	for _, name := range names {
		now := d.Bytes(name)
		if !strings.HasPrefix(was[name], now) || len(now) < safe[name] {
			t.Fatalf("%q was %q with %d safe, and is %q", name, was[name], safe[name], now)
		}
		if d.Safe(name) != len(now) || d.Size(name) != len(now) {
			t.Fatalf("%q: %d of %d safe", name, d.Safe(name), d.Size(name))
		}
	}
}

func TestSafeOutlastsManyLosses(t *testing.T) {
	d := filled(t, 100, "a", "abc", "")
	for i := range 20 {
		ok(t, d.Append("a", "rest"))
		d.Off()
		d.On(-i)
		must(t, "Bytes", d.Bytes("a"), "abc")
	}
}

// The chapter's examples.

func TestExample(t *testing.T) {
	d := plank.New(100)
	ok(t, d.Create("f"), d.Append("f", "abc"), d.Sync("f"), d.Append("f", "de"))
	d.Off()
	d.On(1)
	must(t, "the file", d.Bytes("f"), "abcd")
}
