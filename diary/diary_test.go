package diary_test

import (
	"fmt"
	"slices"
	"strings"
	"testing"

	"manciple/api"
	"manciple/diary"
	"manciple/plank"
	"manciple/slip"
)

// The files' names, written out once more.
const (
	logFile = "diary"
	newFile = "diary.new"
)

func filled(b byte) api.Digest {
	var d api.Digest
	for i := range d {
		d[i] = b
	}
	return d
}

// plain is an ordinary slip of each kind.
func plain() []api.Slip {
	return []api.Slip{
		{Kind: api.SlipBind, Repo: "lib/x", Tag: "v1", Digest: filled(0xa5), Type: "application/x", Size: 1234, At: 56789},
		{Kind: api.SlipMiss, Repo: "lib/x", Tag: "v2", At: 77},
		{Kind: api.SlipDrop, Repo: "lib/x", Tag: "v3"},
		{Kind: api.SlipBlob, Digest: filled(0x5a), Type: "text/plain", Size: 99},
		{Kind: api.SlipGone, Digest: filled(0xff)},
		{Kind: api.SlipTouch, Digest: filled(0x77)},
	}
}

// bad are slips that can't be.
func bad() []api.Slip {
	return []api.Slip{
		{},
		{Kind: api.SlipTouch + 1, Digest: filled(1)},
		{Kind: -1},
		{Kind: api.SlipGone, Digest: filled(1), Size: 1},
		{Kind: api.SlipDrop, Repo: "a"},
		{Kind: api.SlipMiss, Repo: "a", Tag: strings.Repeat("t", api.MaxTag+1)},
		{Kind: api.SlipBlob, Size: -1},
	}
}

func gone(n int) api.Slip {
	return api.Slip{Kind: api.SlipGone, Digest: api.Digest{byte(n), byte(n >> 8)}}
}

// goneSize is what the chapter ahead of this one says of such a record.
const goneSize = 39

func someGone(first, n int) []api.Slip {
	var list []api.Slip
	for i := range n {
		list = append(list, gone(first+i))
	}
	return list
}

func records(t *testing.T, list ...api.Slip) string {
	t.Helper()
	all := ""
	for _, x := range list {
		record, e := slip.Write(x)
		if e != api.OK {
			t.Fatalf("%v: error %d", x, e)
		}
		all += record
	}
	return all
}

// ok fails the test unless all calls went well.
func ok(t *testing.T, errors ...api.Errno) {
	t.Helper()
	for i, e := range errors {
		if e != api.OK {
			t.Fatalf("call %d: error %d", i+1, e)
		}
	}
}

// must fails the test unless a call answered so.
func must(t *testing.T, what string, got, want any) {
	t.Helper()
	if got != want {
		t.Errorf("%s: got %v, want %v", what, got, want)
	}
}

// open opens a log that must have just these slips.
func open(t *testing.T, d *plank.Plank, want ...api.Slip) *diary.Diary {
	t.Helper()
	l, list, e := diary.Open(d)
	if e != api.OK || l == nil {
		t.Fatalf("Open: %v, error %d", l, e)
	}
	if !slices.Equal(list, want) {
		t.Fatalf("Open: got %v, want %v", list, want)
	}
	return l
}

// opened is a log of a new disk with these slips, all of them unsafe.
func opened(t *testing.T, room int, list ...api.Slip) (*plank.Plank, *diary.Diary) {
	t.Helper()
	d := plank.New(room)
	l := open(t, d)
	for _, x := range list {
		ok(t, l.Add(x))
	}
	return d, l
}

// sickOne is a log that an Append which failed has made sick.
func sickOne(t *testing.T, list ...api.Slip) (*plank.Plank, *diary.Diary) {
	t.Helper()
	d, l := opened(t, 10000, list...)
	d.Arm(1, api.FaultIO, 0)
	must(t, "an Add that fails", l.Add(gone(99)), api.ErrIO)
	return d, l
}

// mustBe fails the test unless the log has so many slips, all of them of
// goneSize, so many of them sure.
func mustBe(t *testing.T, what string, l *diary.Diary, slips, sure int, sick bool) {
	t.Helper()
	must(t, what, show(l), fmt.Sprintf("%d slips, %d sure, %d bytes, sick %v", slips, sure, slips*goneSize, sick))
}

// mustNotOpen fails the test if anything is told beside an error.
func mustNotOpen(t *testing.T, d *plank.Plank, want api.Errno) {
	t.Helper()
	if l, list, e := diary.Open(d); l != nil || len(list) != 0 || e != want {
		t.Errorf("Open: %v, %v, error %d, want error %d and nothing else", l, list, e, want)
	}
}

// The chapter's example.
func TestExample(t *testing.T) {
	for keep := range goneSize + 1 {
		d, l := opened(t, 1000)
		ok(t, l.Add(gone(1)), l.Add(gone(2)), l.Sync(), l.Add(gone(3)))
		d.Off()
		d.On(keep)
		if keep == goneSize {
			mustBe(t, "all kept", open(t, d, gone(1), gone(2), gone(3)), 3, 3, false)
			continue
		}
		mustBe(t, fmt.Sprint(keep, " kept"), open(t, d, gone(1), gone(2)), 2, 2, keep > 0)
	}
}

// P9.1

func TestOpenOfNilDisk(t *testing.T) { mustNotOpen(t, nil, api.ErrNil) }

func TestOpenOfNewDisk(t *testing.T) {
	d := plank.New(0)
	mustBe(t, "a new log", open(t, d), 0, 0, false)
	must(t, "the disk", showDisk(d), `"diary": "", 0 of 0 safe; 3 operations, down false`)
}

func TestOpenFindsAllKinds(t *testing.T) {
	list := append(plain(), plain()...)
	d := plank.New(10000)
	all := records(t, list...)
	ok(t, d.Lay(logFile, all))
	l := open(t, d, list...)
	must(t, "the log", show(l), fmt.Sprintf("%d slips, %d sure, %d bytes, sick false", len(list), len(list), len(all)))
	must(t, "operations", d.Ops(), 2)
}

func TestOpenMakesSafe(t *testing.T) {
	d := plank.New(1000)
	ok(t, d.Create(logFile), d.Append(logFile, records(t, gone(1))+"torn"))
	open(t, d, gone(1))
	must(t, "safe bytes", d.Safe(logFile), goneSize+4)
}

func TestOpenOfTornFiles(t *testing.T) {
	whole := records(t, gone(1), gone(2))
	for n := range len(whole) {
		d := plank.New(1000)
		ok(t, d.Lay(logFile, whole[:n]))
		found := n / goneSize
		mustBe(t, fmt.Sprint(n, " bytes"), open(t, d, someGone(1, found)...), found, found, n%goneSize != 0)
		must(t, "the file", d.Bytes(logFile), whole[:n])
	}
	for at := range len(whole) {
		d := plank.New(1000)
		ok(t, d.Lay(logFile, whole))
		d.Flip(logFile, at, 0x10)
		found := at / goneSize
		mustBe(t, fmt.Sprint("byte ", at, " another one"), open(t, d, someGone(1, found)...), found, found, true)
	}
	for _, rest := range []string{"\x00", "x", "\x00\x00", strings.Repeat("\xff", 50)} {
		d := plank.New(1000)
		ok(t, d.Lay(logFile, whole+rest))
		mustBe(t, fmt.Sprintf("%q behind it", rest), open(t, d, gone(1), gone(2)), 2, 2, true)
	}
}

func TestOpenTakesAwayWhatIsNew(t *testing.T) {
	d := plank.New(1000)
	ok(t, d.Lay(newFile, records(t, gone(1))), d.Lay("diary.new2", "x"), d.Lay("diar", "y"))
	open(t, d)
	must(t, "files", strings.Join(d.Names(), " "), "diar diary diary.new2")
	must(t, "operations", d.Ops(), 4)
	ok(t, d.Lay(newFile, ""))
	open(t, d)
	must(t, "files", strings.Join(d.Names(), " "), "diar diary diary.new2")
	must(t, "operations", d.Ops(), 4+3)
}

func TestOpenOnFullDisk(t *testing.T) {
	d := plank.New(1000)
	for i := range api.MaxFiles {
		ok(t, d.Lay(fmt.Sprint("f", i), ""))
	}
	mustNotOpen(t, d, api.ErrFull)
	must(t, "operations", d.Ops(), 1)
	ok(t, d.Rename("f0", newFile))
	mustBe(t, "a log in the place of what was new", open(t, d), 0, 0, false)
}

func TestOpenWithoutPower(t *testing.T) {
	for _, files := range [][]string{{}, {logFile}, {newFile}, {logFile, newFile}} {
		d := plank.New(1000)
		for _, name := range files {
			ok(t, d.Lay(name, records(t, gone(1))))
		}
		d.Off()
		mustNotOpen(t, d, api.ErrDown)
		must(t, "operations", d.Ops(), 0)
		must(t, "files", strings.Join(d.Names(), " "), strings.Join(files, " "))
	}
}

// P9.2

func TestAdd(t *testing.T) {
	d, l := opened(t, 10000)
	n := 0
	for i, x := range plain() {
		must(t, fmt.Sprint("Add of kind ", x.Kind), l.Add(x), api.OK)
		n += len(records(t, x))
		must(t, "the log", show(l), fmt.Sprintf("%d slips, 0 sure, %d bytes, sick false", i+1, n))
		must(t, "the file", d.Bytes(logFile), records(t, plain()[:i+1]...))
		must(t, "safe bytes", d.Safe(logFile), 0)
		must(t, "operations", d.Ops(), 3+i+1)
	}
	open(t, d, plain()...)
}

func TestAddOfWhatIsNoSlip(t *testing.T) {
	d, l := opened(t, 1000, gone(1))
	before := showDisk(d)
	for _, x := range bad() {
		must(t, fmt.Sprint("Add of ", x), l.Add(x), api.ErrArg)
		mustBe(t, "the log", l, 1, 0, false)
		must(t, "the disk", showDisk(d), before)
	}
}

func TestAddThatFails(t *testing.T) {
	for _, c := range []struct {
		name string
		fail func(d *plank.Plank)
		want api.Errno
	}{
		{"IO", func(d *plank.Plank) { d.Arm(1, api.FaultIO, 0) }, api.ErrIO},
		{"power", func(d *plank.Plank) { d.Arm(1, api.FaultPower, 0) }, api.ErrDown},
		{"off", func(d *plank.Plank) { d.Off() }, api.ErrDown},
		{"full", func(d *plank.Plank) { d.Lay("other", strings.Repeat("x", 100-goneSize-goneSize+1)) }, api.ErrFull},
		{"none", func(d *plank.Plank) { d.Delete(logFile) }, api.ErrNone},
	} {
		d, l := opened(t, 100, gone(1))
		c.fail(d)
		must(t, c.name, l.Add(gone(2)), c.want)
		mustBe(t, c.name, l, 1, 0, true)
		ops := d.Ops()
		d.On()
		must(t, c.name+", Add again", l.Add(gone(2)), api.ErrState)
		must(t, c.name+", Add of no slip", l.Add(api.Slip{}), api.ErrState)
		must(t, c.name+", Sync", l.Sync(), api.ErrState)
		must(t, c.name+", operations", d.Ops(), ops)
	}
}

func TestAddToTheLastByte(t *testing.T) {
	d, l := opened(t, 2*goneSize, gone(1), gone(2))
	must(t, "bytes", d.Used(), 2*goneSize)
	must(t, "one more", l.Add(gone(3)), api.ErrFull)
	mustBe(t, "a full log", l, 2, 0, true)
	ok(t, d.Sync(logFile))
	mustBe(t, "opened again", open(t, d, gone(1), gone(2)), 2, 2, false)
}

func TestSync(t *testing.T) {
	d, l := opened(t, 1000)
	must(t, "Sync of nothing", l.Sync(), api.OK)
	must(t, "operations", d.Ops(), 3)
	ok(t, l.Add(gone(1)), l.Add(gone(2)))
	mustBe(t, "ahead of Sync", l, 2, 0, false)
	must(t, "Sync", l.Sync(), api.OK)
	mustBe(t, "behind Sync", l, 2, 2, false)
	must(t, "safe bytes", d.Safe(logFile), 2*goneSize)
	must(t, "operations", d.Ops(), 6)
	must(t, "Sync again", l.Sync(), api.OK)
	must(t, "operations", d.Ops(), 6)
	ok(t, l.Add(gone(3)))
	mustBe(t, "one more", l, 3, 2, false)
	must(t, "safe bytes", d.Safe(logFile), 2*goneSize)
}

// Where all is safe the disk isn't asked, even if it would fail.
func TestSyncOfWhatIsSafe(t *testing.T) {
	d, l := opened(t, 1000, gone(1))
	ok(t, l.Sync())
	d.Off()
	must(t, "Sync", l.Sync(), api.OK)
	mustBe(t, "the log", l, 1, 1, false)
	d.On()
	l = open(t, d, gone(1))
	d.Arm(1, api.FaultIO, 0)
	must(t, "Sync behind Open", l.Sync(), api.OK)
	mustBe(t, "the log", l, 1, 1, false)
}

func TestSyncThatFails(t *testing.T) {
	for _, c := range []struct {
		name string
		fail func(d *plank.Plank)
		want api.Errno
	}{
		{"IO", func(d *plank.Plank) { d.Arm(1, api.FaultIO, 0) }, api.ErrIO},
		{"power", func(d *plank.Plank) { d.Arm(1, api.FaultPower, 0) }, api.ErrDown},
		{"off", func(d *plank.Plank) { d.Off() }, api.ErrDown},
		{"none", func(d *plank.Plank) { d.Delete(logFile) }, api.ErrNone},
	} {
		d, l := opened(t, 1000, gone(1))
		ok(t, l.Sync(), l.Add(gone(2)))
		c.fail(d)
		must(t, c.name, l.Sync(), c.want)
		mustBe(t, c.name, l, 2, 1, true)
		ops := d.Ops()
		d.On()
		must(t, c.name+", Sync again", l.Sync(), api.ErrState)
		must(t, c.name+", Add", l.Add(gone(3)), api.ErrState)
		must(t, c.name+", operations", d.Ops(), ops)
	}
}

// A sick log of which all is safe is sick, nevertheless.
func TestSyncOfSickLog(t *testing.T) {
	_, l := sickOne(t)
	must(t, "Sync", l.Sync(), api.ErrState)
	d := plank.New(1000)
	ok(t, d.Lay(logFile, "torn"))
	must(t, "Sync of a torn one", open(t, d).Sync(), api.ErrState)
}

// P9.3

func TestRewrite(t *testing.T) {
	for n := range 5 {
		d, l := opened(t, 10000, gone(1), gone(2))
		ops := d.Ops()
		must(t, "Rewrite", l.Rewrite(someGone(10, n)...), api.OK)
		mustBe(t, "the log", l, n, n, false)
		must(t, "the file", d.Bytes(logFile), records(t, someGone(10, n)...))
		must(t, "safe bytes", d.Safe(logFile), n*goneSize)
		must(t, "files", strings.Join(d.Names(), " "), logFile)
		// Append and all others; without slips there is no Append.
		must(t, "operations", d.Ops()-ops, 3+min(n, 1))
		must(t, "Sync", l.Sync(), api.OK)
		must(t, "operations", d.Ops()-ops, 3+min(n, 1))
		ok(t, l.Add(gone(20)))
		mustBe(t, "one more", l, n+1, n, false)
		open(t, d, append(someGone(10, n), gone(20))...)
	}
}

func TestRewriteOfAllKinds(t *testing.T) {
	d, l := opened(t, 10000, gone(1))
	ok(t, l.Rewrite(plain()...))
	all := records(t, plain()...)
	must(t, "the log", show(l), fmt.Sprintf("6 slips, 6 sure, %d bytes, sick false", len(all)))
	must(t, "the file", d.Bytes(logFile), all)
}

func TestRewriteHeals(t *testing.T) {
	d, l := sickOne(t, gone(1), gone(2))
	must(t, "Rewrite", l.Rewrite(gone(1)), api.OK)
	mustBe(t, "the log", l, 1, 1, false)
	ok(t, l.Add(gone(3)), l.Sync())
	open(t, d, gone(1), gone(3))

	d = plank.New(1000)
	ok(t, d.Lay(logFile, records(t, gone(1))+"torn"))
	l = open(t, d, gone(1))
	ok(t, l.Rewrite(), l.Add(gone(4)))
	mustBe(t, "the log", l, 1, 0, false)
	open(t, d, gone(4))
}

func TestRewriteWithWhatIsNoSlip(t *testing.T) {
	for _, x := range bad() {
		for at := range 3 {
			d, l := opened(t, 1000, gone(1))
			ok(t, d.Lay(newFile, "x"))
			before := showDisk(d)
			list := slices.Insert(someGone(5, 2), at, x)
			must(t, fmt.Sprint("Rewrite with ", x), l.Rewrite(list...), api.ErrArg)
			mustBe(t, "the log", l, 1, 0, false)
			must(t, "the disk", showDisk(d), before)
			// Of a sick one, and without power, the answer is the same one.
			d.Off()
			must(t, "an Add that fails", l.Add(gone(2)), api.ErrDown)
			must(t, fmt.Sprint("Rewrite with ", x), l.Rewrite(list...), api.ErrArg)
			mustBe(t, "the log", l, 1, 0, true)
		}
	}
}

func TestRewriteTakesAwayWhatIsNew(t *testing.T) {
	for _, left := range []string{"", "left over"} {
		d, l := opened(t, 1000, gone(1))
		ok(t, d.Lay(newFile, left))
		ops := d.Ops()
		must(t, "Rewrite", l.Rewrite(gone(2)), api.OK)
		must(t, "operations", d.Ops()-ops, 5)
		must(t, "the file", d.Bytes(logFile), records(t, gone(2)))
	}
}

// Each operation fails in its turn: the log is as it was, sick or not, and
// what was done ahead stays.
func TestRewriteThatFails(t *testing.T) {
	record := records(t, gone(7))
	old := records(t, gone(1))
	for at, want := range []string{
		fmt.Sprintf(`"diary": %q, 0 of 39 safe; "diary.new": "left", 4 of 4 safe; `, old),
		fmt.Sprintf(`"diary": %q, 0 of 39 safe; `, old),
		fmt.Sprintf(`"diary": %q, 0 of 39 safe; "diary.new": "", 0 of 0 safe; `, old),
		fmt.Sprintf(`"diary": %q, 0 of 39 safe; "diary.new": %q, 0 of 39 safe; `, old, record),
		fmt.Sprintf(`"diary": %q, 0 of 39 safe; "diary.new": %q, 39 of 39 safe; `, old, record),
	} {
		for _, sick := range []bool{false, true} {
			d, l := opened(t, 1000, gone(1))
			if sick {
				d, l = sickOne(t, gone(1))
			}
			ok(t, d.Lay(newFile, "left"))
			ops := d.Ops()
			d.Arm(at+1, api.FaultIO, 0)
			must(t, "Rewrite", l.Rewrite(gone(7)), api.ErrIO)
			mustBe(t, "the log", l, 1, 0, sick)
			must(t, "the disk", showDisk(d), fmt.Sprintf("%s%d operations, down false", want, ops+at+1))
			must(t, "Rewrite again", l.Rewrite(gone(7)), api.OK)
			mustBe(t, "the log", l, 1, 1, false)
			must(t, "files", strings.Join(d.Names(), " "), logFile)
		}
	}
}

func TestRewriteOnFullDisk(t *testing.T) {
	d, l := opened(t, 3*goneSize, gone(1), gone(2))
	must(t, "Rewrite of two", l.Rewrite(gone(1), gone(2)), api.ErrFull)
	mustBe(t, "the log", l, 2, 0, false)
	must(t, "bytes that are new", d.Size(newFile), 0)
	must(t, "Rewrite of one", l.Rewrite(gone(2)), api.OK)
	mustBe(t, "the log", l, 1, 1, false)

	d, l = opened(t, 1000, gone(1))
	for i := range api.MaxFiles - 1 {
		ok(t, d.Lay(fmt.Sprint("f", i), ""))
	}
	must(t, "Rewrite among too many files", l.Rewrite(gone(2)), api.ErrFull)
	mustBe(t, "the log", l, 1, 0, false)
	must(t, "bytes that are new", d.Size(newFile), -1)
}

// P9.4

func TestNilLog(t *testing.T) {
	var l *diary.Diary
	must(t, "Add", l.Add(gone(1)), api.ErrNil)
	must(t, "Add of no slip", l.Add(api.Slip{}), api.ErrNil)
	must(t, "Sync", l.Sync(), api.ErrNil)
	must(t, "Rewrite", l.Rewrite(), api.ErrNil)
	must(t, "Rewrite with what is no slip", l.Rewrite(gone(1), api.Slip{}), api.ErrNil)
	mustBe(t, "what is told", l, 0, 0, true)
}

// P9.5

// entry is one call that a log gets.
type entry struct {
	name string
	list []api.Slip
}

// diaryOfAll has each kind of call behind each other one.
func diaryOfAll() []entry {
	names := []string{"add", "add", "sync", "add", "rewrite", "add", "add", "rewrite", "rewrite", "sync", "add", "sync", "sync", "add", "rewrite", "add"}
	var list []entry
	for i, name := range names {
		e := entry{name: name}
		switch name {
		case "add":
			e.list = someGone(i*10, 1)
		case "rewrite":
			e.list = someGone(i*10, i%5)
		}
		list = append(list, e)
	}
	return list
}

func (x entry) call(l *diary.Diary) api.Errno {
	switch x.name {
	case "add":
		return l.Add(x.list[0])
	case "sync":
		return l.Sync()
	}
	return l.Rewrite(x.list...)
}

// hope is what may be found: a beginning of added, with so many at least; or
// just anew, if it isn't nil.
type hope struct {
	added []api.Slip
	sure  int
	anew  []api.Slip
}

// after is what may be found behind a call that answered e.
func (h hope) after(x entry, e api.Errno) hope {
	switch {
	case x.name == "add" && e == api.OK:
		h.added = append(slices.Clone(h.added), x.list...)
	case x.name == "sync" && e == api.OK:
		h.sure = len(h.added)
	case x.name == "rewrite" && e == api.OK:
		h = hope{added: x.list, sure: len(x.list)}
	case x.name == "rewrite":
		h.anew = append([]api.Slip{}, x.list...)
	}
	return h
}

func (h hope) check(t *testing.T, what string, found []api.Slip) {
	t.Helper()
	if h.anew != nil && slices.Equal(found, h.anew) {
		return
	}
	n := len(found)
	if n < h.sure || n > len(h.added) || !slices.Equal(found, h.added[:n]) {
		t.Fatalf("%s: found %v, which isn't a beginning of %v with %d of these", what, found, h.added, h.sure)
	}
}

// The power goes in each operation of a script in turn, and of what wasn't
// safe each number of bytes is kept; then it goes in each operation of Open.
func TestPowerGoesAnywhere(t *testing.T) {
	for at := 1; at <= 40; at++ {
		for keep := range 3 * goneSize {
			d := plank.New(10000)
			l := open(t, d)
			h := hope{}
			d.Arm(at, api.FaultPower, 0)
			for _, x := range diaryOfAll() {
				e := x.call(l)
				h = h.after(x, e)
				if d.Down() {
					break
				}
			}
			d.Off()
			d.On(keep, keep)
			cutOpens(t, d, keep)
			_, found, e := diary.Open(d)
			must(t, "Open", e, api.OK)
			h.check(t, fmt.Sprintf("operation %d, %d kept", at, keep), found)
		}
	}
}

// cutOpens lets the power go in the first operation of Open, then in the
// second one, till it gets through.
func cutOpens(t *testing.T, d *plank.Plank, keep int) {
	t.Helper()
	for at := 1; at <= 5; at++ {
		d.Arm(at, api.FaultPower, 0)
		_, _, e := diary.Open(d)
		d.Arm(0, 0, 0)
		if e == api.OK {
			return
		}
		must(t, "Open that is cut", e, api.ErrDown)
		d.On(keep, keep)
	}
	t.Fatal("Open makes more operations than there are")
}

// Where all operations of a Rewrite but its last one were done the old slips
// are found, and behind that the new ones.
func TestPowerGoesInRewrite(t *testing.T) {
	for at := 1; at <= 5; at++ {
		d, l := opened(t, 1000, gone(1), gone(2))
		ok(t, l.Sync())
		d.Arm(at, api.FaultPower, 0)
		e := l.Rewrite(gone(7))
		d.Off()
		d.On(1000, 1000)
		if at < 5 {
			must(t, "Rewrite", e, api.ErrDown)
			open(t, d, gone(1), gone(2))
			continue
		}
		must(t, "Rewrite", e, api.OK)
		open(t, d, gone(7))
	}
}

// P9.6: which operations the calls make, and in which order; each is told by
// what is on the disk if it, or one behind it, fails.

func TestOrderOfOpen(t *testing.T) {
	for at, want := range []string{
		`"diary.new": "left", 0 of 4 safe; `,
		``,
		`"diary": "", 0 of 0 safe; `,
		`"diary": "", 0 of 0 safe; `,
	} {
		d := plank.New(1000)
		ok(t, d.Create(newFile), d.Append(newFile, "left"))
		d.Arm(at+1, api.FaultIO, 0)
		mustNotOpen(t, d, api.ErrIO)
		must(t, "the disk", showDisk(d), fmt.Sprintf("%s%d operations, down false", want, 2+at+1))
	}
	record := records(t, gone(1))
	for at := range 2 {
		d := plank.New(1000)
		ok(t, d.Create(logFile), d.Append(logFile, record))
		d.Arm(at+1, api.FaultIO, 0)
		mustNotOpen(t, d, api.ErrIO)
		must(t, "the disk", showDisk(d), fmt.Sprintf(`"diary": %q, 0 of 39 safe; %d operations, down false`, record, 2+at+1))
	}
	// Were Sync the first of the two, it would be safe where Read failed.
	d := plank.New(1000)
	ok(t, d.Create(logFile), d.Append(logFile, record))
	d.Arm(1, api.FaultIO, 0)
	mustNotOpen(t, d, api.ErrIO)
	must(t, "safe bytes", d.Safe(logFile), 0)
	open(t, d, gone(1))
	must(t, "safe bytes", d.Safe(logFile), goneSize)
	must(t, "operations", d.Ops(), 2+1+2)
}

// Calls that only tell make none, and nothing else is touched.
func TestTellingMakesNoOperations(t *testing.T) {
	d, l := opened(t, 1000, gone(1))
	ok(t, d.Lay("other", "x"))
	before := showDisk(d)
	show(l)
	must(t, "the disk", showDisk(d), before)
}

// Rule 3: what is handed in isn't changed, and nothing of it is kept; what is
// answered is new.

func TestAnswersAreApart(t *testing.T) {
	d := plank.New(10000)
	ok(t, d.Lay(logFile, records(t, plain()...)))
	l, list, e := diary.Open(d)
	ok(t, e)
	for i := range list {
		list[i] = api.Slip{}
	}
	must(t, "slips", l.Len(), len(plain()))
	open(t, d, plain()...)

	spare := append(plain(), gone(1), gone(2))
	ok(t, l.Rewrite(spare[:6]...))
	if !slices.Equal(spare, append(plain(), gone(1), gone(2))) {
		t.Errorf("Rewrite has changed its list: %v", spare)
	}
	for i := range spare {
		spare[i] = api.Slip{}
	}
	ok(t, l.Add(gone(3)))
	open(t, d, append(plain(), gone(3))...)
}

// Two logs of two disks are apart.
func TestLogsAreApart(t *testing.T) {
	d, l := opened(t, 1000, gone(1))
	other, m := opened(t, 1000)
	ok(t, l.Sync(), m.Add(gone(2)))
	mustBe(t, "one", l, 1, 1, false)
	mustBe(t, "the other one", m, 1, 0, false)
	open(t, d, gone(1))
	open(t, other, gone(2))
}

// A log of as many slips as a disk has room for.
func TestGreatLog(t *testing.T) {
	n := api.MaxRoom / goneSize
	d, l := opened(t, api.MaxRoom)
	ok(t, l.Rewrite(someGone(0, n)...))
	mustBe(t, "a great log", l, n, n, false)
	must(t, "one more", l.Add(gone(0)), api.ErrFull)
	mustBe(t, "opened again", open(t, d, someGone(0, n)...), n, n, false)
}

// P1, at any arguments.

func FuzzOpen(f *testing.F) {
	r, _ := slip.Write(gone(1))
	f.Add(r+r[:10], 1000, 3)
	f.Add("", 0, 0)
	f.Add(r+"\x00\x00", 100, -1)
	f.Fuzz(func(t *testing.T, text string, room, at int) {
		d := plank.New(room)
		d.Lay(logFile, text)
		size := max(d.Size(logFile), 0)
		d.Arm(at, api.FaultPower, 0)
		l, list, e := diary.Open(d)
		if e != api.OK {
			mustBe(t, "no log", l, 0, 0, true)
			return
		}
		if l.Len() != len(list) || l.Sure() != len(list) || l.Sick() != (l.Size() != size) {
			t.Fatalf("%s of %d bytes: %v", show(l), size, list)
		}
		if !strings.HasPrefix(text, records(t, list...)) {
			t.Fatalf("%v of %q", list, text)
		}
	})
}

func FuzzAdd(f *testing.F) {
	f.Add(1, "a", "b", "c", 1, 2)
	f.Add(-1<<63, "", "\xff", strings.Repeat("t", 200), 1<<62, -1)
	f.Fuzz(func(t *testing.T, kind int, repo, tag, media string, size, at int) {
		x := api.Slip{Kind: kind, Repo: repo, Tag: tag, Type: media, Size: size, At: at}
		d, l := opened(t, 10000)
		if !slip.Good(x) {
			must(t, "Add", l.Add(x), api.ErrArg)
			must(t, "Rewrite", l.Rewrite(x), api.ErrArg)
			mustBe(t, "the log", l, 0, 0, false)
			return
		}
		must(t, "Add", l.Add(x), api.OK)
		must(t, "Rewrite", l.Rewrite(x, x), api.OK)
		open(t, d, x, x)
	})
}
