package strand_test

import (
	"encoding/binary"
	"fmt"
	"hash/crc32"
	"maps"
	"math"
	"math/rand"
	"reflect"
	"slices"
	"strings"
	"testing"

	"heliograph/api"
	"heliograph/strand"
	"heliograph/tape"
)

const far = 1 << 40 // MaxOffset, MaxSeq, and the greatest time

// files is what a tape has, by names.
type files map[string]string

// log is a strand as it should be: its segments' first offsets, and the batches of each.
type log struct {
	firsts []int
	segs   [][]api.Batch
}

// batch is a batch of so many records, each of another key.
func batch(base, count int) api.Batch {
	b := api.Batch{Base: base, Count: count, Prod: 3, Seq: base % 100, Time: 7}
	for i := range count {
		b.Recs = append(b.Recs, api.Rec{Off: base + i, Key: fmt.Sprint("k", i), Val: fmt.Sprint("v", (base+i)%10)})
	}
	return b
}

// row is batches of these counts, one behind the other.
func row(base int, counts ...int) []api.Batch {
	var list []api.Batch
	for _, n := range counts {
		list = append(list, batch(base, n))
		base += n
	}
	return list
}

// without is a batch of which the records at these places are missing.
func without(b api.Batch, places ...int) api.Batch {
	var recs []api.Rec
	for i, rec := range b.Recs {
		if !slices.Contains(places, i) {
			recs = append(recs, rec)
		}
	}
	b.Recs = recs
	return b
}

// written writes a batch's bytes as chapter 3's words have them.
func written(b api.Batch) string {
	var s strings.Builder
	fmt.Fprintf(&s, "li%dei%dei%dei%dei%de", b.Base, b.Count, b.Prod, b.Seq, b.Time)
	for _, rec := range b.Recs {
		gone := 0
		if rec.Gone {
			gone = 1
		}
		fmt.Fprintf(&s, "li%de%d:%s%d:%si%dee", rec.Off, len(rec.Key), rec.Key, len(rec.Val), rec.Val, gone)
	}
	return s.String() + "e"
}

// framed frames a text as chapter 2's words have it.
func framed(text string) string {
	var s []byte
	s = binary.LittleEndian.AppendUint32(s, uint32(len(text)))
	s = binary.LittleEndian.AppendUint32(s, crc32.ChecksumIEEE([]byte(text)))
	return string(s) + text
}

// file is the bytes of batches in a file.
func file(list ...api.Batch) string {
	s := ""
	for _, b := range list {
		s += framed(written(b))
	}
	return s
}

// name is the name of a segment's file, of the prefix p.
func name(first int) string { return fmt.Sprintf("p.%013d", first) }

// filed is the files that a log has.
func (l log) filed() files {
	f := files{}
	for i, first := range l.firsts {
		f[name(first)] = file(l.segs[i]...)
	}
	return f
}

func (l log) all() []api.Batch { return slices.Concat(l.segs...) }

// laid is a tape with these files, all of them safe, and no act armed.
func laid(t *testing.T, f files) *tape.Tape {
	t.Helper()
	d := tape.New(api.MaxTape)
	for _, n := range slices.Sorted(maps.Keys(f)) {
		is(t, "Append to the tape", d.Append(n, f[n]), api.OK)
		is(t, "Sync of the tape", d.Sync(n), api.OK)
	}
	return d
}

func read(t *testing.T, d *tape.Tape) files {
	t.Helper()
	f := files{}
	for _, n := range d.Names() {
		s, e := d.Read(n)
		is(t, "Read of the tape", e, api.OK)
		f[n] = s
	}
	return f
}

func is(t *testing.T, what string, got, want api.Errno) {
	t.Helper()
	if got != want {
		t.Errorf("%s: %d, want %d", what, got, want)
	}
}

func isFiles(t *testing.T, what string, d *tape.Tape, want files) {
	t.Helper()
	if got := read(t, d); !maps.Equal(got, want) {
		t.Errorf("%s: the files are\n%.900q, want\n%.900q", what, got, want)
	}
}

// alike: whether two lists of batches are equal, told without the package; no records are one, nil or empty.
func alike(a, b []api.Batch) bool {
	equal := func(x, y api.Batch) bool {
		recs := slices.Equal(x.Recs, y.Recs)
		x.Recs, y.Recs = nil, nil
		return recs && reflect.DeepEqual(x, y)
	}
	return slices.EqualFunc(a, b, equal)
}

// isLog: a strand tells that it is this log, in all ways.
func isLog(t *testing.T, what string, s *strand.Strand, want log) {
	t.Helper()
	start, end := 0, 0
	if len(want.firsts) > 0 {
		start, end = want.firsts[0], want.firsts[len(want.firsts)-1]
	}
	var recs []api.Rec
	for _, b := range want.all() {
		end = b.Base + b.Count
		recs = append(recs, b.Recs...)
	}
	if s.Start() != start || s.End() != end {
		t.Errorf("%s: from %d to %d, want %d to %d", what, s.Start(), s.End(), start, end)
	}
	if got := s.Bases(); !slices.Equal(got, want.firsts) {
		t.Errorf("%s: Bases() = %d, want %d", what, got, want.firsts)
	}
	for i, list := range want.segs {
		if got := s.Seg(i); !alike(got, list) {
			t.Errorf("%s: Seg(%d) = %v, want %v", what, i, got, list)
		}
	}
	for _, i := range []int{math.MinInt, -1, len(want.firsts), math.MaxInt} {
		if got := s.Seg(i); len(got) != 0 {
			t.Errorf("%s: Seg(%d) = %v", what, i, got)
		}
	}
	if got := slices.Collect(s.Batches(math.MinInt)); !alike(got, want.all()) {
		t.Errorf("%s: Batches = %v, want %v", what, got, want.all())
	}
	if got := s.Read(math.MinInt, math.MaxInt); !slices.Equal(got, recs) {
		t.Errorf("%s: Read = %v, want %v", what, got, recs)
	}
}

// opened opens the strand p, whose segments end with their first batch.
func opened(t *testing.T, d *tape.Tape) *strand.Strand {
	t.Helper()
	return openedBy(t, d, 1)
}

func openedBy(t *testing.T, d *tape.Tape, seg int) *strand.Strand {
	t.Helper()
	s, e := strand.Open(d, "p", seg)
	if e != api.OK {
		t.Fatalf("Open: %d", e)
	}
	return s
}

// four is a log of four segments, with a batch each but the second one, that has two, from 10 on.
func four() log {
	return log{[]int{10, 12, 16, 17}, [][]api.Batch{row(10, 2), row(12, 3, 1), row(16, 1), row(17, 8)}}
}

func TestNil(t *testing.T) {
	var s *strand.Strand
	for what, e := range map[string]api.Errno{
		"Append": s.Append(batch(0, 1)), "Append of none": s.Append(api.Batch{}), "Sync": s.Sync(), "Reset": s.Reset(-1), "Cut": s.Cut(-1), "Drop": s.Drop(-1), "Put": s.Put(-1, nil),
	} {
		is(t, what, e, api.ErrNil)
	}
	isLog(t, "nil", s, log{})
	for range s.Batches(0) {
		t.Error("a batch of a nil strand")
	}
	if s.Read(0, 1) != nil {
		t.Error("records of a nil strand")
	}
}

func TestOpenArguments(t *testing.T) {
	long := strings.Repeat("p", 16)
	for _, prefix := range []string{"", long + "p", strings.Repeat("p", 1<<20)} {
		for _, seg := range []int{1, 0} {
			s, e := strand.Open(tape.New(100), prefix, seg)
			if s != nil || e != api.ErrArg {
				t.Errorf("Open(%.20q, %d): %d", prefix, seg, e)
			}
		}
	}
	for _, seg := range []int{math.MinInt, -1, 0, 1<<20 + 1, math.MaxInt} {
		if s, e := strand.Open(tape.New(100), "p", seg); s != nil || e != api.ErrArg {
			t.Errorf("Open with a seg of %d: %d", seg, e)
		}
	}
	for _, prefix := range []string{"p", ".", "\x00", "\xff", "new", long, strings.Repeat("\xff", 16)} {
		for _, seg := range []int{1, 2, 1<<20 - 1, 1 << 20} {
			if s, e := strand.Open(tape.New(100), prefix, seg); s == nil || e != api.OK {
				t.Errorf("Open(%q, %d): %d", prefix, seg, e)
			}
		}
	}
}

func TestOpenErrorsInOrder(t *testing.T) {
	off := tape.New(100)
	off.Off()
	for _, c := range []struct {
		what   string
		d      *tape.Tape
		prefix string
		seg    int
		want   api.Errno
	}{
		{"nil", nil, "p", 1, api.ErrNil}, {"nil and no prefix", nil, "", 1, api.ErrNil}, {"nil and no seg", nil, "p", 0, api.ErrNil},
		{"off and no prefix", off, "", 1, api.ErrArg}, {"off and no seg", off, "p", 0, api.ErrArg}, {"off", off, "p", 1, api.ErrDown},
	} {
		if s, e := strand.Open(c.d, c.prefix, c.seg); s != nil || e != c.want {
			t.Errorf("%s: %d, want %d", c.what, e, c.want)
		}
	}
}

// A strand without segments.
func TestWithoutSegments(t *testing.T) {
	d := tape.New(1 << 16)
	s := opened(t, d)
	isLog(t, "new", s, log{})
	is(t, "Sync", s.Sync(), api.OK)
	is(t, "Cut(0)", s.Cut(0), api.OK)
	is(t, "Drop(0)", s.Drop(0), api.OK)
	for _, n := range []int{math.MinInt, -1, 1, far, math.MaxInt} {
		is(t, "Cut", s.Cut(n), api.ErrArg)
		is(t, "Drop", s.Drop(n), api.ErrArg)
	}
	for _, at := range []int{math.MinInt, -2, -1, 0, 1, math.MaxInt} {
		is(t, "Put", s.Put(at, nil), api.ErrArg)
	}
	for _, base := range []int{1, 2, far - 1} {
		is(t, "Append", s.Append(batch(base, 1)), api.ErrOrder)
	}
	isLog(t, "still", s, log{})
	if d.Acts() != 0 {
		t.Errorf("%d acts", d.Acts())
	}
	is(t, "Append", s.Append(batch(0, 2)), api.OK)
	want := log{[]int{0}, [][]api.Batch{row(0, 2)}}
	isLog(t, "Append", s, want)
	isFiles(t, "Append", d, want.filed())
	if d.Acts() != 1 {
		t.Errorf("%d acts of the first Append", d.Acts())
	}
}

func TestFilesOfPrefixes(t *testing.T) {
	d := tape.New(1 << 16)
	want := files{}
	for _, prefix := range []string{"p", "pp", "p.", ".", "new", "p.0000000000000", "\x00", "\xff\xfe", strings.Repeat("q", 16)} {
		s, e := strand.Open(d, prefix, 1)
		is(t, "Open", e, api.OK)
		isLog(t, prefix, s, log{})
		is(t, "Append", s.Append(batch(0, 1)), api.OK)
		is(t, "Append", s.Append(batch(1, 2)), api.OK)
		want[prefix+".0000000000000"] = file(batch(0, 1))
		want[prefix+".0000000000001"] = file(batch(1, 2))
	}
	isFiles(t, "prefixes", d, want)
}

func TestNamesOfFirstOffsets(t *testing.T) {
	for off, want := range map[int]string{
		0: "p.0000000000000", 1: "p.0000000000001", 9: "p.0000000000009", 10: "p.0000000000010", 1234567890123 % far: "p.0135056262347", 1e12: "p.1000000000000", far - 1: "p.1099511627775", far: "p.1099511627776",
	} {
		d := tape.New(100)
		s := opened(t, d)
		is(t, "Reset", s.Reset(off), api.OK)
		isFiles(t, "Reset", d, files{want: ""})
		isLog(t, "Reset", opened(t, d), log{[]int{off}, [][]api.Batch{nil}})
	}
}

// The last segment takes batches as long as it has fewer than seg bytes.
func TestSegmentsEnd(t *testing.T) {
	list := row(0, 1, 1, 1, 1, 1, 1)
	size := len(file(list[0]))
	for _, c := range []struct{ seg, each int }{
		{1, 1}, {size - 1, 1}, {size, 1}, {size + 1, 2}, {2*size - 1, 2}, {2 * size, 2}, {2*size + 1, 3}, {3 * size, 3}, {6 * size, 6}, {1 << 20, 6},
	} {
		d := tape.New(1 << 16)
		s := openedBy(t, d, c.seg)
		var want log
		for chunk := range slices.Chunk(list, c.each) {
			want.firsts = append(want.firsts, chunk[0].Base)
			want.segs = append(want.segs, chunk)
		}
		for _, b := range list {
			is(t, "Append", s.Append(b), api.OK)
		}
		isLog(t, fmt.Sprint("seg ", c.seg), s, want)
		isFiles(t, fmt.Sprint("seg ", c.seg), d, want.filed())
		isLog(t, fmt.Sprint("seg ", c.seg, ", opened again"), openedBy(t, d, c.seg), want)
	}
}

// How many bytes a segment has is known of one that was found, too, and of one that was cut.
func TestSegmentsEndWhenOpenedAgain(t *testing.T) {
	list := row(0, 1, 1, 1, 1, 1, 1)
	size := len(file(list[0]))
	d := laid(t, files{name(0): file(list[:2]...)})
	s := openedBy(t, d, 2*size+1)
	is(t, "Append", s.Append(list[2]), api.OK)
	is(t, "Append", s.Append(list[3]), api.OK)
	isLog(t, "found", s, log{[]int{0, 3}, [][]api.Batch{list[:3], list[3:4]}})
	is(t, "Cut", s.Cut(2), api.OK)
	is(t, "Append", s.Append(list[2]), api.OK)
	is(t, "Append", s.Append(list[3]), api.OK)
	isLog(t, "cut", s, log{[]int{0, 3}, [][]api.Batch{list[:3], list[3:4]}})

	less := openedBy(t, d, 2*size)
	is(t, "Cut", less.Cut(2), api.OK)
	is(t, "Append", less.Append(list[2]), api.OK)
	isLog(t, "by another seg", less, log{[]int{0, 2}, [][]api.Batch{list[:2], list[2:3]}})
}

// A segment that a Put made shorter, and a Cut the last one, has room again.
func TestSegmentsEndBehindPut(t *testing.T) {
	list := row(0, 8, 8, 8)
	seg := len(file(list[0]))
	d := tape.New(1 << 16)
	s := openedBy(t, d, seg)
	for _, b := range list[:2] {
		is(t, "Append", s.Append(b), api.OK)
	}
	less := without(list[0], 3)
	is(t, "Put", s.Put(0, []api.Batch{less}), api.OK)
	is(t, "Cut", s.Cut(8), api.OK)
	is(t, "Append", s.Append(list[1]), api.OK)
	is(t, "Append", s.Append(list[2]), api.OK)
	want := log{[]int{0, 16}, [][]api.Batch{{less, list[1]}, list[2:]}}
	isLog(t, "Put", s, want)
	isFiles(t, "Put", d, want.filed())
}

func TestAppendOfNone(t *testing.T) {
	d := laid(t, four().filed())
	s := opened(t, d)
	acts := d.Acts()
	good := batch(25, 2)
	for what, spoil := range map[string]func(b *api.Batch){
		"no count": func(b *api.Batch) { b.Count = 0 }, "a count too great": func(b *api.Batch) { b.Count = 9 }, "a base below 0": func(b *api.Batch) { b.Base = -1 },
		"a producer below 0": func(b *api.Batch) { b.Prod = -1 }, "a number above all": func(b *api.Batch) { b.Seq = far + 1 }, "a time above all": func(b *api.Batch) { b.Time = math.MaxInt },
		"a record ahead of it": func(b *api.Batch) { b.Recs[0].Off = 24 }, "a record behind it": func(b *api.Batch) { b.Recs[1].Off = 27 }, "two records at one offset": func(b *api.Batch) { b.Recs[1].Off = 25 },
		"a key too long": func(b *api.Batch) { b.Recs[0].Key = strings.Repeat("k", 17) }, "a value too long": func(b *api.Batch) { b.Recs[0].Val = strings.Repeat("v", 65) }, "a value of nothing": func(b *api.Batch) { b.Recs[0].Gone = true },
		"another base": func(b *api.Batch) { b.Base = 30 }, "an end above all": func(b *api.Batch) { b.Base = far - 1; b.Recs = nil }, "the greatest base": func(b *api.Batch) { b.Base = math.MaxInt },
	} {
		b := good
		b.Recs = slices.Clone(good.Recs)
		spoil(&b)
		is(t, what, s.Append(b), api.ErrArg)
	}
	is(t, "nothing at all", s.Append(api.Batch{}), api.ErrArg)
	isLog(t, "none", s, four())
	if d.Acts() != acts {
		t.Errorf("%d acts", d.Acts()-acts)
	}
	is(t, "Append", s.Append(good), api.OK)
}

func TestAppendOutOfOrder(t *testing.T) {
	d := laid(t, four().filed())
	s := opened(t, d)
	acts := d.Acts()
	for _, base := range []int{0, 10, 12, 17, 24, 26, 27, far - 1} {
		is(t, fmt.Sprint("Append at ", base), s.Append(batch(base, 1)), api.ErrOrder)
	}
	isLog(t, "out of order", s, four())
	isFiles(t, "out of order", d, four().filed())
	if d.Acts() != acts {
		t.Errorf("%d acts", d.Acts()-acts)
	}
}

// Batches of all kinds are in the file, and found, as they were.
func TestAppendOfAllKinds(t *testing.T) {
	greatest := api.Batch{Base: 15, Count: 8, Prod: far, Seq: far, Time: far}
	for i := range 8 {
		greatest.Recs = append(greatest.Recs, api.Rec{Off: 15 + i, Key: strings.Repeat("\xff", 16), Val: strings.Repeat("\x00", 64)})
	}
	list := []api.Batch{
		{Base: 0, Count: 1}, {Base: 1, Count: 8, Prod: 1}, without(batch(9, 5), 0, 2, 4),
		{Base: 14, Count: 1, Recs: []api.Rec{{Off: 14, Key: "k", Gone: true}}}, greatest,
	}
	for _, seg := range []int{1, 100, 1 << 20} {
		d := tape.New(1 << 16)
		s := openedBy(t, d, seg)
		for _, b := range list {
			is(t, "Append", s.Append(b), api.OK)
		}
		got, all := openedBy(t, d, seg), ""
		if !alike(slices.Collect(s.Batches(0)), list) || !alike(slices.Collect(got.Batches(0)), list) {
			t.Errorf("seg %d: %v, %v", seg, slices.Collect(s.Batches(0)), slices.Collect(got.Batches(0)))
		}
		for _, n := range d.Names() {
			text, _ := d.Read(n)
			all += text
		}
		if all != file(list...) {
			t.Errorf("seg %d: %.200q", seg, all)
		}
	}
}

func TestAppendUpToTheGreatestOffset(t *testing.T) {
	d := tape.New(1 << 16)
	s := opened(t, d)
	is(t, "Reset", s.Reset(far-9), api.OK)
	is(t, "Append", s.Append(batch(far-9, 8)), api.OK)
	is(t, "Append", s.Append(batch(far-1, 2)), api.ErrArg)
	is(t, "Append", s.Append(batch(far-1, 1)), api.OK)
	is(t, "Append", s.Append(batch(far, 1)), api.ErrArg)
	want := log{[]int{far - 9, far - 1}, [][]api.Batch{row(far-9, 8), row(far-1, 1)}}
	isLog(t, "greatest", s, want)
	isLog(t, "greatest, opened again", opened(t, d), want)
	is(t, "Cut", s.Cut(far), api.OK)
	is(t, "Reset", s.Reset(far), api.OK)
	is(t, "Append", s.Append(batch(far, 1)), api.ErrArg)
	isLog(t, "at the greatest", s, log{[]int{far}, [][]api.Batch{nil}})
}

// A segment that ends is synced ahead of the next one; the last one only by Sync.
func TestWhatIsSafe(t *testing.T) {
	list := row(0, 2, 2, 2)
	size := len(file(list[0]))
	d := tape.New(1 << 16)
	s := openedBy(t, d, size+1)
	for _, b := range list {
		is(t, "Append", s.Append(b), api.OK)
	}
	if d.Acts() != 4 {
		t.Errorf("%d acts, want three Appends and a Sync", d.Acts())
	}
	d.Off()
	d.On(nil)
	isFiles(t, "without Sync", d, files{name(0): file(list[:2]...), name(4): ""})
	s = openedBy(t, d, size+1)
	isLog(t, "without Sync", s, log{[]int{0, 4}, [][]api.Batch{list[:2], nil}})
	is(t, "Append", s.Append(list[2]), api.OK)
	acts := d.Acts()
	is(t, "Sync", s.Sync(), api.OK)
	is(t, "Sync", s.Sync(), api.OK)
	if d.Acts() != acts+2 {
		t.Errorf("%d acts of two Syncs", d.Acts()-acts)
	}
	d.Off()
	d.On(nil)
	isFiles(t, "with Sync", d, files{name(0): file(list[:2]...), name(4): file(list[2])})
}

func TestAppendWithoutRoom(t *testing.T) {
	list := row(0, 4, 4, 1)
	for _, seg := range []int{1, 1 << 20} {
		room := len(file(list[:2]...)) - 1
		d := tape.New(room)
		s := openedBy(t, d, seg)
		is(t, "Append", s.Append(list[0]), api.OK)
		acts := d.Acts()
		is(t, "Append", s.Append(list[1]), api.ErrFull)
		// A segment that has its bytes is synced all the same.
		if sync := d.Acts() - acts; sync != 0 && seg > 1 || sync != 1 && seg == 1 {
			t.Errorf("seg %d: %d acts", seg, sync)
		}
		want := log{[]int{0}, [][]api.Batch{list[:1]}}
		isLog(t, "full", s, want)
		isFiles(t, "full", d, want.filed())
		is(t, "Append", s.Append(batch(4, 1)), api.OK)
		d.Off()
		d.On(nil)
		if got, e := d.Read(name(0)); (got == file(list[0])) != (seg == 1) {
			t.Errorf("seg %d: what was safe is %q, %d", seg, got, e)
		}
	}
	none := tape.New(0)
	s := opened(t, none)
	is(t, "no room", s.Append(batch(0, 1)), api.ErrFull)
	isLog(t, "no room", s, log{})
	isFiles(t, "no room", none, files{})
}

// crowd is as many files of others.
func crowd(t *testing.T, d *tape.Tape, n int) {
	t.Helper()
	for i := range n {
		is(t, "a file of others", d.Append(fmt.Sprint("other", i), ""), api.OK)
	}
}

func TestWithoutFiles(t *testing.T) {
	d := laid(t, four().filed())
	s := opened(t, d)
	crowd(t, d, api.MaxFiles-4)
	is(t, "Append", s.Append(batch(25, 1)), api.ErrFull)
	is(t, "Put", s.Put(1, s.Seg(1)), api.ErrFull)
	isLog(t, "full", s, four())
	is(t, "Cut", s.Cut(24), api.ErrArg)
	is(t, "Cut", s.Cut(17), api.OK)
	is(t, "Append", s.Append(batch(17, 8)), api.OK)
	isLog(t, "as before", s, four())
}

func TestReset(t *testing.T) {
	for _, f := range []files{{}, {name(0): ""}, four().filed()} {
		for _, off := range []int{0, 10, 12, 25, 1000, far - 1, far} {
			d := laid(t, f)
			s := opened(t, d)
			acts := d.Acts()
			is(t, "Reset", s.Reset(off), api.OK)
			if d.Acts() != acts+len(f)+2 {
				t.Errorf("Reset: %d acts of %d files", d.Acts()-acts, len(f))
			}
			want := log{[]int{off}, [][]api.Batch{nil}}
			isLog(t, "Reset", s, want)
			d.Off()
			d.On(nil)
			isFiles(t, "Reset", d, files{name(off): ""})
			s = opened(t, d)
			isLog(t, "Reset, opened again", s, want)
			if off < far {
				is(t, "Append", s.Append(batch(off, 1)), api.OK)
				isLog(t, "Append", s, log{[]int{off}, [][]api.Batch{row(off, 1)}})
			}
		}
	}
}

func TestResetToNoOffset(t *testing.T) {
	d := laid(t, four().filed())
	s := opened(t, d)
	for _, off := range []int{math.MinInt, -far, -1, far + 1, math.MaxInt} {
		is(t, "Reset", s.Reset(off), api.ErrArg)
	}
	isLog(t, "Reset", s, four())
	isFiles(t, "Reset", d, four().filed())
}

func TestResetWithoutFiles(t *testing.T) {
	d := tape.New(1 << 16)
	s := opened(t, d)
	crowd(t, d, api.MaxFiles)
	is(t, "Reset", s.Reset(5), api.ErrFull)
	isLog(t, "Reset", s, log{})

	// The file that goes leaves its place to the one that is made.
	is(t, "Drop of the tape", d.Drop("other0"), api.OK)
	is(t, "Reset", s.Reset(5), api.OK)
	is(t, "Append", s.Append(batch(5, 1)), api.OK)
	is(t, "Reset", s.Reset(6), api.OK)
	isLog(t, "Reset", s, log{[]int{6}, [][]api.Batch{nil}})
}

func TestCut(t *testing.T) {
	b := four().all()
	for _, c := range []struct {
		off  int
		want log
		acts int
	}{
		{10, log{[]int{10}, [][]api.Batch{nil}}, 4},
		{12, log{[]int{10}, [][]api.Batch{b[:1]}}, 4},
		{15, log{[]int{10, 12}, [][]api.Batch{b[:1], b[1:2]}}, 3},
		{16, log{[]int{10, 12}, [][]api.Batch{b[:1], b[1:3]}}, 3},
		{17, log{[]int{10, 12, 16}, [][]api.Batch{b[:1], b[1:3], b[3:4]}}, 2},
		{25, four(), 1},
	} {
		d := laid(t, four().filed())
		s := opened(t, d)
		acts := d.Acts()
		is(t, fmt.Sprint("Cut ", c.off), s.Cut(c.off), api.OK)
		if d.Acts() != acts+c.acts {
			t.Errorf("Cut %d: %d acts, want %d", c.off, d.Acts()-acts, c.acts)
		}
		isLog(t, fmt.Sprint("Cut ", c.off), s, c.want)
		isFiles(t, fmt.Sprint("Cut ", c.off), d, c.want.filed())
		is(t, "Append", s.Append(batch(c.off, 1)), api.OK)
		if s.End() != c.off+1 {
			t.Errorf("Cut %d: a batch more ends at %d", c.off, s.End())
		}
		isLog(t, fmt.Sprint("Cut ", c.off, ", opened again"), opened(t, d), log{s.Bases(), segsOf(s)})
	}
}

// segsOf is what a strand tells of each of its segments.
func segsOf(s *strand.Strand) [][]api.Batch {
	var segs [][]api.Batch
	for i := range s.Bases() {
		segs = append(segs, s.Seg(i))
	}
	return segs
}

func TestCutWhereNoneEnds(t *testing.T) {
	d := laid(t, four().filed())
	s := opened(t, d)
	acts := d.Acts()
	for _, off := range []int{math.MinInt, -1, 0, 9, 11, 13, 14, 18, 24, 26, 1000, math.MaxInt} {
		is(t, fmt.Sprint("Cut ", off), s.Cut(off), api.ErrArg)
	}
	isLog(t, "Cut", s, four())
	isFiles(t, "Cut", d, four().filed())
	if d.Acts() != acts {
		t.Errorf("%d acts", d.Acts()-acts)
	}
}

// The last segment may have no batch; cut there, it goes, unless it is the only one.
func TestCutOfNone(t *testing.T) {
	d := laid(t, files{name(10): file(row(10, 2)...), name(12): ""})
	s := opened(t, d)
	isLog(t, "found", s, log{[]int{10, 12}, [][]api.Batch{row(10, 2), nil}})
	is(t, "Cut", s.Cut(12), api.OK)
	want := log{[]int{10}, [][]api.Batch{row(10, 2)}}
	isLog(t, "Cut", s, want)
	isFiles(t, "Cut", d, want.filed())
	for range 2 {
		is(t, "Cut", s.Cut(10), api.OK)
		isLog(t, "Cut", s, log{[]int{10}, [][]api.Batch{nil}})
		isFiles(t, "Cut", d, files{name(10): ""})
	}
	is(t, "Cut", s.Cut(11), api.ErrArg)
}

func TestDrop(t *testing.T) {
	for n := range 4 {
		d := laid(t, four().filed())
		s := opened(t, d)
		acts := d.Acts()
		is(t, "Drop", s.Drop(n), api.OK)
		want := log{four().firsts[n:], four().segs[n:]}
		isLog(t, fmt.Sprint("Drop ", n), s, want)
		isFiles(t, fmt.Sprint("Drop ", n), d, want.filed())
		if d.Acts() != acts+n {
			t.Errorf("Drop %d: %d acts", n, d.Acts()-acts)
		}
		for _, more := range []int{math.MinInt, -1, 4 - n, 5 - n, math.MaxInt} {
			is(t, fmt.Sprint("Drop ", n, ", then ", more), s.Drop(more), api.ErrArg)
		}
		isLog(t, fmt.Sprint("Drop ", n), s, want)
		is(t, "Append", s.Append(batch(25, 1)), api.OK)
		isLog(t, fmt.Sprint("Drop ", n, ", opened again"), opened(t, d), log{s.Bases(), segsOf(s)})
	}
}

func TestPut(t *testing.T) {
	b := four().all()
	for _, c := range []struct {
		what string
		at   int
		list []api.Batch
	}{
		{"nothing missing", 0, b[:1]}, {"one missing", 0, []api.Batch{without(b[0], 0)}}, {"another one", 0, []api.Batch{without(b[0], 1)}}, {"all missing", 0, []api.Batch{without(b[0], 0, 1)}},
		{"of two batches", 1, []api.Batch{without(b[1], 0, 2), b[2]}}, {"of the second of two", 1, []api.Batch{b[1], without(b[2], 0)}}, {"all of two", 1, []api.Batch{without(b[1], 0, 1, 2), without(b[2], 0)}},
		{"the last that can be", 2, []api.Batch{without(b[3], 0)}},
	} {
		d := laid(t, four().filed())
		s := opened(t, d)
		acts := d.Acts()
		is(t, c.what, s.Put(c.at, c.list), api.OK)
		if d.Acts() != acts+3 {
			t.Errorf("%s: %d acts", c.what, d.Acts()-acts)
		}
		want := four()
		want.segs[c.at] = c.list
		isLog(t, c.what, s, want)
		isFiles(t, c.what, d, want.filed())
		d.Off()
		d.On(nil)
		isFiles(t, c.what+", all safe", d, want.filed())
		isLog(t, c.what+", opened again", opened(t, d), want)
	}
}

func TestPutTwice(t *testing.T) {
	d := laid(t, four().filed())
	s := opened(t, d)
	b := four().all()[1:3]
	once, twice := without(b[0], 1), without(b[0], 1, 2)
	is(t, "Put", s.Put(1, []api.Batch{once, b[1]}), api.OK)
	is(t, "what is missing isn't put back", s.Put(1, b), api.ErrArg)
	is(t, "Put", s.Put(1, []api.Batch{twice, b[1]}), api.OK)
	want := four()
	want.segs[1] = []api.Batch{twice, b[1]}
	isLog(t, "Put", s, want)
	isFiles(t, "Put", d, want.filed())
}

func TestPutOfOthers(t *testing.T) {
	b := four().all()
	changed := func(change func(x *api.Batch)) []api.Batch {
		x := without(b[1])
		change(&x)
		return []api.Batch{x, b[2]}
	}
	d := laid(t, four().filed())
	s := opened(t, d)
	acts := d.Acts()
	for _, at := range []int{math.MinInt, -1, 3, 4, math.MaxInt} {
		for _, list := range [][]api.Batch{nil, b[:1], b[4:]} {
			is(t, fmt.Sprint("Put at ", at), s.Put(at, list), api.ErrArg)
		}
	}
	for what, list := range map[string][]api.Batch{
		"none": nil, "one too few": b[1:2], "the other one": b[2:3], "one too many": b[1:4], "in another order": {b[2], b[1]}, "one twice": {b[1], b[1]}, "another segment's": {b[0], b[3]},
		"another base": changed(func(x *api.Batch) { x.Base-- }), "another count": changed(func(x *api.Batch) { x.Count++ }), "another producer": changed(func(x *api.Batch) { x.Prod = 0 }),
		"another number": changed(func(x *api.Batch) { x.Seq++ }), "another time": changed(func(x *api.Batch) { x.Time++ }),
		"another offset": changed(func(x *api.Batch) { x.Recs[0].Off++ }), "another key": changed(func(x *api.Batch) { x.Recs[1].Key = "" }), "another value": changed(func(x *api.Batch) { x.Recs[1].Val = "w" }),
		"gone":                 changed(func(x *api.Batch) { x.Recs[1].Val, x.Recs[1].Gone = "", true }),
		"a record more":        changed(func(x *api.Batch) { x.Recs = append(x.Recs, b[2].Recs...) }),
		"a record twice":       changed(func(x *api.Batch) { x.Recs[1] = x.Recs[0] }),
		"records turned round": changed(func(x *api.Batch) { slices.Reverse(x.Recs) }),
	} {
		is(t, what, s.Put(1, list), api.ErrArg)
	}
	isLog(t, "Put", s, four())
	isFiles(t, "Put", d, four().filed())
	if d.Acts() != acts {
		t.Errorf("%d acts", d.Acts()-acts)
	}
}

func TestPutWithoutRoom(t *testing.T) {
	list := row(0, 2, 1)
	less := []api.Batch{without(list[0], 0)}
	d := tape.New(len(file(list...)) + len(file(less...)) - 1)
	s := opened(t, d)
	for _, b := range list {
		is(t, "Append", s.Append(b), api.OK)
	}
	acts := d.Acts()
	is(t, "Put", s.Put(0, less), api.ErrFull)
	want := log{[]int{0, 2}, [][]api.Batch{list[:1], list[1:]}}
	isLog(t, "Put", s, want)
	isFiles(t, "Put", d, want.filed())
	if d.Acts() != acts {
		t.Errorf("%d acts", d.Acts()-acts)
	}
	is(t, "Put of less", s.Put(0, []api.Batch{without(list[0], 0, 1)}), api.OK)
}

func TestBatches(t *testing.T) {
	s := opened(t, laid(t, four().filed()))
	all := four().all()
	for off := -1; off < 28; off++ {
		var want []api.Batch
		for _, b := range all {
			if b.Base+b.Count > off {
				want = append(want, b)
			}
		}
		going := s.Batches(off)
		for range 2 {
			if got := slices.Collect(going); !alike(got, want) {
				t.Errorf("Batches(%d) = %v, want %v", off, got, want)
			}
		}
		for most := range len(want) {
			var got []api.Batch
			for b := range going {
				if got = append(got, b); len(got) == most+1 {
					break
				}
			}
			if !alike(got, want[:most+1]) {
				t.Errorf("Batches(%d), %d of them = %v, want %v", off, most+1, got, want[:most+1])
			}
		}
	}
	for range s.Batches(math.MaxInt) {
		t.Error("a batch above all offsets")
	}
}

func TestRead(t *testing.T) {
	l := four()
	l.segs[1] = []api.Batch{without(l.segs[1][0], 0, 1), without(l.segs[1][1], 0)}
	s := opened(t, laid(t, l.filed()))
	var all []api.Rec
	for _, b := range l.all() {
		all = append(all, b.Recs...)
	}
	for _, off := range []int{math.MinInt, -1, 0, 9, 10, 11, 12, 13, 14, 15, 16, 17, 18, 24, 25, 26, far, math.MaxInt} {
		var want []api.Rec
		for _, rec := range all {
			if rec.Off >= off {
				want = append(want, rec)
			}
		}
		for _, most := range []int{math.MinInt, -1, 0, 1, 2, 3, 4, 11, 12, 13, math.MaxInt} {
			got := s.Read(off, most)
			if !slices.Equal(got, want[:min(max(most, 0), len(want))]) {
				t.Errorf("Read(%d, %d) = %v", off, most, got)
			}
		}
	}
}

// A going goes over the batches that there were when it began, whatever is done meanwhile; the next one over those that there are then.
func TestBatchesWhileTheyChange(t *testing.T) {
	for what, change := range map[string]func(s *strand.Strand) []api.Errno{
		"Append":     func(s *strand.Strand) []api.Errno { return []api.Errno{s.Append(batch(25, 1)), s.Append(batch(26, 1))} },
		"Reset":      func(s *strand.Strand) []api.Errno { return []api.Errno{s.Reset(10), s.Append(batch(10, 5))} },
		"Cut":        func(s *strand.Strand) []api.Errno { return []api.Errno{s.Cut(15), s.Append(batch(15, 8))} },
		"Cut of all": func(s *strand.Strand) []api.Errno { return []api.Errno{s.Cut(10), s.Append(batch(10, 8))} },
		"Drop":       func(s *strand.Strand) []api.Errno { return []api.Errno{s.Drop(3)} },
		"Put": func(s *strand.Strand) []api.Errno {
			return []api.Errno{s.Put(2, []api.Batch{without(batch(16, 1), 0)})}
		},
		"Put of the one": func(s *strand.Strand) []api.Errno {
			return []api.Errno{s.Put(0, []api.Batch{without(batch(10, 2), 0)})}
		},
	} {
		for _, seg := range []int{1, 1 << 20} {
			s := openedBy(t, laid(t, four().filed()), seg)
			going := s.Batches(0)
			var got []api.Batch
			for b := range going {
				if len(got) == 0 {
					for _, e := range change(s) {
						is(t, what, e, api.OK)
					}
				}
				got = append(got, b)
			}
			if !alike(got, four().all()) {
				t.Errorf("%s: %v", what, got)
			}
			if again := slices.Collect(going); !alike(again, slices.Concat(segsOf(s)...)) || alike(again, got) {
				t.Errorf("%s, again: %v", what, again)
			}
		}
	}
}

// spoil changes all that a list of batches has, and the spare room behind it.
func spoil(list []api.Batch) {
	for i := range list {
		recs := list[i].Recs[:cap(list[i].Recs)]
		for k := range recs {
			recs[k] = api.Rec{Off: -1, Key: "spoilt"}
		}
	}
	list = list[:cap(list)]
	for i := range list {
		list[i] = api.Batch{Base: -1}
	}
}

func TestWhatIsHandedInIsNotKept(t *testing.T) {
	s := opened(t, tape.New(1<<16))
	handed := row(0, 2, 3)
	handed[0].Recs = append(make([]api.Rec, 0, 8), handed[0].Recs...)
	for _, b := range handed {
		is(t, "Append", s.Append(b), api.OK)
	}
	if !alike(handed, row(0, 2, 3)) || handed[0].Recs[:3][2] != (api.Rec{}) {
		t.Error("Append changed what was handed in")
	}
	spoil(handed)
	want := log{[]int{0, 2}, [][]api.Batch{row(0, 2), row(2, 3)}}
	isLog(t, "Append", s, want)
	less := append(make([]api.Batch, 0, 4), without(batch(0, 2), 0))
	is(t, "Put", s.Put(0, less), api.OK)
	if !alike(less, []api.Batch{without(batch(0, 2), 0)}) || less[:2][1].Count != 0 {
		t.Error("Put changed what was handed in")
	}
	spoil(less)
	want.segs[0] = []api.Batch{without(batch(0, 2), 0)}
	isLog(t, "Put", s, want)
}

func TestAnswersAreNew(t *testing.T) {
	for _, open := range []bool{false, true} {
		d := tape.New(1 << 16)
		s := opened(t, d)
		for _, b := range row(0, 2, 3, 1) {
			is(t, "Append", s.Append(b), api.OK)
		}
		if open {
			s = opened(t, d)
		}
		want := log{[]int{0, 2, 5}, [][]api.Batch{row(0, 2), row(2, 3), row(5, 1)}}
		spoil(s.Seg(0))
		spoil(slices.Collect(s.Batches(0)))
		firsts, recs := s.Bases(), s.Read(0, 9)
		clear(firsts[:cap(firsts)])
		clear(recs[:cap(recs)])
		for b := range s.Batches(0) {
			clear(b.Recs[:cap(b.Recs)])
		}
		isLog(t, "answers", s, want)
		a, b := s.Seg(1), s.Seg(1)
		spoil(a)
		if !alike(b, row(2, 3)) {
			t.Error("two answers share")
		}
	}
}

func TestOpenOfFiles(t *testing.T) {
	b := four().all()
	whole := four().filed()
	with := func(more files) files {
		f := maps.Clone(whole)
		maps.Copy(f, more)
		return f
	}
	changed := func(s string, at int) string { return s[:at] + string(s[at]^1) + s[at+1:] }
	two, one := file(b[1:3]...), file(b[1])
	first := log{[]int{10}, [][]api.Batch{b[:1]}}
	half := log{[]int{10, 12}, [][]api.Batch{b[:1], b[1:2]}}
	both := log{[]int{10, 12}, [][]api.Batch{b[:1], b[1:3]}}
	none := log{[]int{10, 12}, [][]api.Batch{b[:1], nil}}
	for _, c := range []struct {
		what string
		f    files
		want log
		acts int
	}{
		{"no files", files{}, log{}, 0},
		{"whole", whole, four(), 0},
		{"an empty one", files{name(10): ""}, log{[]int{10}, [][]api.Batch{nil}}, 0},
		{"an empty one behind others", with(files{name(25): ""}), log{append(four().firsts, 25), append(four().segs, nil)}, 0},
		{"what a Put left", with(files{"p.new": file(b[0])}), four(), 1},
		{"what a Put left, empty", with(files{"p.new": ""}), four(), 1},
		{"what a Put left alone", files{"p.new": "x"}, log{}, 1},
		{"a byte behind the last", with(files{name(17): file(b[4]) + "\x00"}), four(), 1},
		{"a byte behind the first", with(files{name(10): file(b[0]) + "x"}), first, 4},
		{"a byte behind the second", with(files{name(12): two + "x"}), both, 3},
		{"a frame cut off", with(files{name(12): two[:len(two)-1]}), half, 3},
		{"a frame's head alone", with(files{name(12): one + two[len(one):len(one)+8]}), half, 3},
		{"a frame's check changed", with(files{name(12): changed(two, len(one)+4)}), half, 3},
		{"a frame's text changed", with(files{name(12): changed(two, len(two)-1)}), half, 3},
		{"the first frame's text changed", with(files{name(12): changed(two, 9)}), none, 3},
		{"a frame that is too long", with(files{name(12): one + framed(strings.Repeat("x", 1<<14+1))}), half, 3},
		{"a frame of no batch", with(files{name(12): one + framed("x") + file(b[2])}), half, 3},
		{"a frame of nothing", with(files{name(12): two + framed("")}), both, 3},
		{"a batch with a byte behind", with(files{name(12): one + framed(written(b[2])+"e")}), half, 3},
		{"a batch in another form", with(files{name(12): one + framed(strings.Replace(written(b[2]), "i15e", "i015e", 1))}), half, 3},
		{"a batch that can't be", with(files{name(12): one + framed("li15ei0ei0ei0ei0ee")}), half, 3},
		{"a batch twice", with(files{name(12): one + two}), half, 3},
		{"a batch missing", with(files{name(12): one + file(batch(16, 1))}), half, 3},
		{"another batch ahead", with(files{name(12): file(batch(11, 1)) + one}), none, 3},
		{"a first batch above the first offset", with(files{name(10): file(batch(11, 1))}), log{[]int{10}, [][]api.Batch{nil}}, 4},
		{"nothing but other bytes", with(files{name(10): "other bytes"}), log{[]int{10}, [][]api.Batch{nil}}, 4},
		{"a frame of no batch at 0", files{name(0): framed("x") + file(batch(0, 1))}, log{[]int{0}, [][]api.Batch{nil}}, 1},
		{"a frame of no batch behind one of 1", files{name(0): file(batch(0, 1)) + framed("")}, log{[]int{0}, [][]api.Batch{row(0, 1)}}, 1},
		{"an empty one in the middle", with(files{name(12): ""}), none, 2},
		{"an empty one ahead", with(files{name(9): ""}), log{[]int{9}, [][]api.Batch{nil}}, 4},
		{"one that ends too early", with(files{name(12): one}), half, 2},
		{"one that ends too late", with(files{name(12): two + file(batch(16, 1))}), log{[]int{10, 12}, [][]api.Batch{b[:1], append(slices.Clone(b[1:3]), batch(16, 1))}}, 2},
		{"one too many in between", with(files{name(13): file(batch(13, 1))}), both, 3},
		{"a hole behind the last", with(files{name(26): file(batch(26, 1))}), four(), 1},
		{"the greatest first offset", with(files{name(far): ""}), four(), 1},
		{"the greatest first offset alone", files{name(far): ""}, log{[]int{far}, [][]api.Batch{nil}}, 0},
	} {
		d := laid(t, c.f)
		acts := d.Acts()
		s := opened(t, d)
		isLog(t, c.what, s, c.want)
		isFiles(t, c.what, d, c.want.filed())
		if d.Acts() != acts+c.acts {
			t.Errorf("%s: %d acts, want %d", c.what, d.Acts()-acts, c.acts)
		}
		acts = d.Acts()
		isLog(t, c.what+", opened again", opened(t, d), c.want)
		if d.Acts() != acts {
			t.Errorf("%s: %d acts of opening again", c.what, d.Acts()-acts)
		}
		if s.End() < far {
			is(t, c.what, s.Append(batch(s.End(), 1)), api.OK)
		}
	}
}

// Files whose names aren't quite a segment's, nor what a Put leaves, belong to others: nothing touches them.
func TestFilesOfOthers(t *testing.T) {
	others := files{}
	for _, n := range []string{
		"p", "p.", "p.new.", "p.new2", ".new", "new", "pp.new", "q.new", "P.new", "p.New", "p.ne", "p.tmp", "p.seq",
		"p.000000000000", "p.00000000000000", "p.0", "p.000000000000a", "p.000000000000 ", "p. 000000000000", "p.+000000000012", "p.-000000000001", "p.0x00000000000", "p.0_0000000_000", "p.00000000000.0",
		"p.1099511627777", "p.9999999999999", "q.0000000000012", "P.0000000000012", "pp.0000000000012", "p0000000000012", "p..0000000000012", ".0000000000012", "0000000000012", "\x00p.0000000000012", "p.0000000000012\x00",
	} {
		others[n] = "others'"
	}
	f := four().filed()
	maps.Copy(f, others)
	d := laid(t, f)
	s := opened(t, d)
	isLog(t, "Open", s, four())
	isFiles(t, "Open", d, f)
	is(t, "Put", s.Put(0, []api.Batch{without(batch(10, 2), 0)}), api.OK)
	is(t, "Drop", s.Drop(1), api.OK)
	is(t, "Cut", s.Cut(16), api.OK)
	is(t, "Append", s.Append(batch(16, 1)), api.OK)
	is(t, "Reset", s.Reset(far), api.OK)
	is(t, "Sync", s.Sync(), api.OK)
	others[name(far)] = ""
	isFiles(t, "all calls", d, others)
}

// steps makes a call over and over, with the power going in its first act, its second and so on, all bytes being kept, and tells the tape's files behind each, those of the call that came to its end last. Its codes are ErrDown, then want.
func steps(t *testing.T, what string, f files, seg int, call func(s *strand.Strand) api.Errno, want api.Errno) []files {
	t.Helper()
	var list []files
	for n := 1; ; n++ {
		d := laid(t, f)
		s := openedBy(t, d, seg)
		before := log{s.Bases(), segsOf(s)}
		d.Arm(n)
		e := call(s)
		if !d.Down() {
			is(t, what, e, want)
			return append(list, read(t, d))
		}
		is(t, what, e, api.ErrDown)
		isLog(t, fmt.Sprint(what, ", the power gone in act ", n), s, before)
		for k, e := range calls(s) {
			is(t, fmt.Sprint(what, ", then ", k), e, api.ErrDown)
		}
		d.On([]int{-1})
		for k, e := range calls(s) {
			is(t, fmt.Sprint(what, ", the power back, then ", k), e, api.ErrDown)
		}
		isLog(t, fmt.Sprint(what, ", the power back"), s, before)
		list = append(list, read(t, d))
	}
}

// calls makes each call with an error, with arguments that are right, and that are wrong.
func calls(s *strand.Strand) map[string]api.Errno {
	return map[string]api.Errno{
		"Append": s.Append(batch(s.End(), 1)), "Append of none": s.Append(api.Batch{}), "Append elsewhere": s.Append(batch(s.End()+1, 1)), "Sync": s.Sync(),
		"Reset": s.Reset(0), "Reset to none": s.Reset(-1), "Cut": s.Cut(s.Start()), "Cut of none": s.Cut(-1), "Drop": s.Drop(0), "Drop of none": s.Drop(-1), "Put": s.Put(0, s.Seg(0)), "Put of none": s.Put(-1, nil),
	}
}

// What each call does with the tape, act by act.
func TestActs(t *testing.T) {
	f := four().filed()
	with := func(more files, gone ...int) files {
		g := maps.Clone(f)
		maps.Copy(g, more)
		for _, first := range gone {
			delete(g, name(first))
		}
		return g
	}
	less := []api.Batch{without(batch(12, 3), 1), batch(15, 1)}
	for _, c := range []struct {
		what string
		seg  int
		call func(s *strand.Strand) api.Errno
		want []files // behind each act; what is behind the last one is there in the end, too
	}{
		{"Append", 1 << 20, func(s *strand.Strand) api.Errno { return s.Append(batch(25, 1)) }, []files{with(files{name(17): file(batch(17, 8), batch(25, 1))})}},
		{"Append of a segment", 1, func(s *strand.Strand) api.Errno { return s.Append(batch(25, 1)) }, []files{f, with(files{name(25): file(batch(25, 1))})}},
		{"Sync", 1, (*strand.Strand).Sync, []files{f}},
		{"Reset", 1, func(s *strand.Strand) api.Errno { return s.Reset(12) }, []files{with(nil, 10), with(nil, 10, 12), with(nil, 10, 12, 16), {}, {name(12): ""}, {name(12): ""}}},
		{"Cut", 1, func(s *strand.Strand) api.Errno { return s.Cut(15) }, []files{with(nil, 16), with(nil, 16, 17), with(files{name(12): file(batch(12, 3))}, 16, 17)}},
		{"Cut of all", 1, func(s *strand.Strand) api.Errno { return s.Cut(10) }, []files{with(nil, 12), with(nil, 12, 16), with(nil, 12, 16, 17), {name(10): ""}}},
		{"Drop", 1, func(s *strand.Strand) api.Errno { return s.Drop(3) }, []files{with(nil, 10), with(nil, 10, 12), with(nil, 10, 12, 16)}},
		{"Put", 1, func(s *strand.Strand) api.Errno { return s.Put(1, less) }, []files{with(files{"p.new": file(less...)}), with(files{"p.new": file(less...)}), with(files{name(12): file(less...)})}},
	} {
		got := steps(t, c.what, f, c.seg, c.call, api.OK)
		want := append(c.want, c.want[len(c.want)-1])
		if !reflect.DeepEqual(got, want) {
			t.Errorf("%s: act by act\n%.2000q, want\n%.2000q", c.what, got, want)
		}
	}
}

// What Open does with the tape, act by act; the power gone in one, there is no strand, and the next Open makes an end of it.
func TestActsOfOpen(t *testing.T) {
	f := four().filed()
	whole := f[name(12)]
	f[name(12)] += "x"
	f["p.new"] = "x"
	want := []files{maps.Clone(f)}
	for _, act := range []func(g files){
		func(g files) { delete(g, "p.new") }, func(g files) { g[name(12)] = whole }, func(g files) { delete(g, name(16)) }, func(g files) { delete(g, name(17)) },
	} {
		g := maps.Clone(want[len(want)-1])
		act(g)
		want = append(want, g)
	}
	for n := 1; n <= 5; n++ {
		d := laid(t, f)
		d.Arm(n)
		s, e := strand.Open(d, "p", 1)
		if n == 5 {
			is(t, "Open", e, api.OK)
			isFiles(t, "Open", d, want[4])
			break
		}
		if s != nil || e != api.ErrDown {
			t.Errorf("the power gone in act %d: %d", n, e)
		}
		d.On(nil)
		isFiles(t, fmt.Sprint("the power gone in act ", n), d, want[n])
		s = opened(t, d)
		if s.Start() != 10 || s.End() < 16 || !alike(slices.Collect(s.Batches(0)), four().all()[:len(slices.Collect(s.Batches(0)))]) {
			t.Errorf("the power gone in act %d: from %d to %d", n, s.Start(), s.End())
		}
	}
}

// The power may go without any act of the strand: it tells what it told, and does nothing more.
func TestPowerGoesElsewhere(t *testing.T) {
	for what, gone := range map[string]func(d *tape.Tape){
		"off":              func(d *tape.Tape) { d.Off() },
		"off and on":       func(d *tape.Tape) { d.Off(); d.On(nil) },
		"in another's act": func(d *tape.Tape) { d.Arm(1); d.Append("other", "x"); d.On([]int{-1}) },
	} {
		d := laid(t, four().filed())
		s := opened(t, d)
		gone(d)
		acts := d.Acts()
		for k, e := range calls(s) {
			is(t, what+", "+k, e, api.ErrDown)
		}
		isLog(t, what, s, four())
		if d.Acts() != acts {
			t.Errorf("%s: %d acts", what, d.Acts()-acts)
		}
		d.On(nil)
		isLog(t, what+", opened again", opened(t, d), four())
	}
}

// Whatever is cut off a file's end, or changed in it, what is found is a beginning of the log up to there.
func TestOpenOfSpoiltFiles(t *testing.T) {
	f := four().filed()
	all := four().all()
	for at, first := range four().firsts {
		text := f[name(first)]
		sure := 0
		for _, list := range four().segs[:at] {
			sure += len(list)
		}
		for i := range text {
			for what, s := range map[string]string{"cut off": text[:i], "changed": text[:i] + string([]byte{text[i] ^ 0x10}) + text[i+1:], "cut out": text[:i] + text[i+1:]} {
				g := maps.Clone(f)
				g[name(first)] = s
				d := laid(t, g)
				p := opened(t, d)
				got := slices.Collect(p.Batches(0))
				if len(got) < sure || len(got) >= len(all) || !alike(got, all[:len(got)]) {
					t.Errorf("segment %d, %s at %d: %v", at, what, i, got)
				}
				isFiles(t, what, d, log{p.Bases(), segsOf(p)}.filed())
			}
		}
	}
}

// model is a strand beside a log, and the batches that must be there and that may be when the power goes.
type model struct {
	log
	safe int // how many of all the batches are safe
}

func (m *model) end() int {
	all := m.all()
	if len(all) == 0 {
		return append(m.firsts, 0)[max(0, len(m.firsts)-1)]
	}
	return all[len(all)-1].Base + all[len(all)-1].Count
}

// step does one thing to a strand, the same to a log beside it if it came to its end, and answers the logs that may be found if it didn't.
func (m *model) step(t *testing.T, r *rand.Rand, s *strand.Strand, seg int) (api.Errno, []log) {
	t.Helper()
	was := log{slices.Clone(m.firsts), slices.Clone(m.segs)}
	last := len(m.segs) - 1
	switch k := r.Intn(12); {
	case k < 7:
		b := batch(m.end(), 1+r.Intn(8))
		if last < 0 || len(file(m.segs[last]...)) >= seg {
			m.safe = len(m.all())
			m.firsts, m.segs = append(m.firsts, b.Base), append(m.segs, nil)
			last++
		}
		m.segs[last] = append(slices.Clone(m.segs[last]), b)
		return s.Append(b), []log{was, {m.firsts, m.segs}}
	case k < 9:
		e := s.Sync()
		if e == api.OK {
			m.safe = len(m.all())
		}
		return e, []log{was}
	case k == 9 && last > 0:
		n := r.Intn(last + 1)
		var may []log
		for i := range n + 1 {
			may = append(may, log{m.firsts[i:], m.segs[i:]})
		}
		m.safe = max(0, m.safe-len(slices.Concat(m.segs[:n]...)))
		m.firsts, m.segs = m.firsts[n:], m.segs[n:]
		return s.Drop(n), may
	case k == 10 && last > 0:
		at := r.Intn(last)
		var list []api.Batch
		for _, b := range m.segs[at] {
			list = append(list, without(b, r.Intn(8), r.Intn(8)))
		}
		m.segs = slices.Clone(m.segs)
		m.segs[at] = list
		return s.Put(at, list), []log{was, {m.firsts, m.segs}}
	case k == 11 && last >= 0:
		return m.cut(r, s, was)
	}
	return api.OK, []log{was}
}

// cut cuts behind some of the batches.
func (m *model) cut(r *rand.Rand, s *strand.Strand, was log) (api.Errno, []log) {
	n, off := r.Intn(len(m.all())+1), m.end()
	if n < len(m.all()) {
		off = m.all()[n].Base
	}
	left := 1
	for left < len(m.firsts) && m.firsts[left] < off {
		left++
	}
	var may []log
	for i := left; i <= len(was.segs); i++ {
		may = append(may, log{was.firsts[:i], was.segs[:i]})
	}
	m.firsts, m.segs = slices.Clone(m.firsts[:left]), slices.Clone(m.segs[:left])
	m.segs[left-1] = nil
	for _, b := range was.segs[left-1] {
		if b.Base < off {
			m.segs[left-1] = append(m.segs[left-1], b)
		}
	}
	m.safe = min(m.safe, n)
	return s.Cut(off), append(may, log{m.firsts, m.segs})
}

// found: whether batches are what is left of a log of which so many are safe.
func found(got []api.Batch, of log, safe int) bool {
	all := of.all()
	return len(got) <= len(all) && len(got) >= min(safe, len(all)) && alike(got, all[:len(got)])
}

// Wherever the power goes, in whichever call, what is found again is what was safe, and of the rest a beginning.
func TestPower(t *testing.T) {
	for seed := range int64(400) {
		r := rand.New(rand.NewSource(seed))
		seg := []int{1, 60, 200, 500, 1 << 20}[r.Intn(5)]
		d := tape.New(1 << 18)
		m := &model{}
		for range 4 {
			s := openedBy(t, d, seg)
			m.log = log{s.Bases(), segsOf(s)}
			m.safe = len(m.all())
			d.Arm(1 + r.Intn(30))
			may := []log{m.log}
			before, safe := m.log, m.safe
			for i := 0; i < 60 && !d.Down(); i++ {
				isLog(t, fmt.Sprint("seed ", seed), s, m.log)
				before, safe = log{slices.Clone(m.firsts), slices.Clone(m.segs)}, m.safe
				var e api.Errno
				e, may = m.step(t, r, s, seg)
				if e != api.OK && e != api.ErrDown || (e == api.ErrDown) != d.Down() {
					t.Errorf("seed %d: %d, down %t", seed, e, d.Down())
				}
			}
			if d.Down() {
				isLog(t, fmt.Sprint("seed ", seed, ", down"), s, before)
				safe = min(safe, m.safe)
			} else {
				d.Off()
				may, safe = []log{m.log}, m.safe
			}
			d.On([]int{r.Intn(2000), r.Intn(100) - 1})
			got := slices.Collect(openedBy(t, d, seg).Batches(0))
			if !slices.ContainsFunc(may, func(l log) bool { return found(got, l, safe) }) {
				t.Fatalf("seed %d: %v, safe %d of one of %v", seed, got, safe, may)
			}
		}
	}
}
