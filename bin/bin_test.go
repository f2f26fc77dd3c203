package bin_test

import (
	"encoding/binary"
	"fmt"
	"hash/crc32"
	"maps"
	"math"
	"math/rand"
	"reflect"
	"slices"
	"strings"
	"testing"

	"heliograph/api"
	"heliograph/bin"
	"heliograph/ledger"
	"heliograph/tape"
	"heliograph/weed"
)

const far = 1 << 40 // MaxOffset, MaxSeq, the greatest Keep, Horizon and time

// numbers are at the ends of their type, and at those of what the chapter names.
var numbers = []int{math.MinInt, math.MinInt + 1, -far - 1, -far, math.MinInt32, -2, -1, 0, 1, 2, 3, 4, 5, 255, 1 << 20, 1<<20 + 1, math.MaxInt32, 1 << 32, far - 1, far, far + 1, math.MaxInt - 1, math.MaxInt}

// one is a layout in which each batch is a segment, and too much.
var one = api.Config{Seg: 1}

// files is what a tape has, by names.
type files map[string]string

// batch is a batch of records that are told as a=1, or as a alone, if it is Gone.
func batch(base, prod, seq int, list ...string) api.Batch {
	b := api.Batch{Base: base, Count: len(list), Prod: prod, Seq: seq}
	for i, s := range list {
		key, val, is := strings.Cut(s, "=")
		b.Recs = append(b.Recs, api.Rec{Off: base + i, Key: key, Val: val, Gone: !is})
	}
	return b
}

// seen is a producer and slots of it, each told by three numbers.
func seen(prod int, slots ...[3]int) api.Seen {
	x := api.Seen{Prod: prod}
	for _, n := range slots {
		x.Slots = append(x.Slots, api.Slot{Seq: n[0], Base: n[1], End: n[2]})
	}
	return x
}

// after is what is remembered behind a table, given these batches: as the chapter's words have it.
func after(t *testing.T, table []api.Seen, list ...api.Batch) []api.Seen {
	t.Helper()
	l, e := ledger.From(table)
	is(t, "From of a table", e, api.OK)
	for _, b := range list {
		l.Add(b)
	}
	return l.Table()
}

// framed frames a text as chapter 2's words have it.
func framed(text string) string {
	var s []byte
	s = binary.LittleEndian.AppendUint32(s, uint32(len(text)))
	s = binary.LittleEndian.AppendUint32(s, crc32.ChecksumIEEE([]byte(text)))
	return string(s) + text
}

// written writes a batch's bytes as chapter 3's words have them.
func written(b api.Batch) string {
	var s strings.Builder
	fmt.Fprintf(&s, "li%dei%dei%dei%dei%de", b.Base, b.Count, b.Prod, b.Seq, b.Time)
	for _, rec := range b.Recs {
		gone := 0
		if rec.Gone {
			gone = 1
		}
		fmt.Fprintf(&s, "li%de%d:%s%d:%si%dee", rec.Off, len(rec.Key), rec.Key, len(rec.Val), rec.Val, gone)
	}
	return s.String() + "e"
}

// listed writes a table's bytes as chapter 6's words have them.
func listed(table []api.Seen) string {
	s := "l"
	for _, x := range table {
		s += fmt.Sprintf("li%de", x.Prod)
		for _, n := range x.Slots {
			s += fmt.Sprintf("li%dei%dei%dee", n.Seq, n.Base, n.End)
		}
		s += "e"
	}
	return s + "e"
}

// seq is the bytes of the file .seq.
func seq(off int, table ...api.Seen) string {
	l := listed(table)
	return framed(fmt.Sprintf("li%de%d:%se", off, len(l), l))
}

// file is the bytes of a segment.
func file(list ...api.Batch) string {
	s := ""
	for _, b := range list {
		s += framed(written(b))
	}
	return s
}

// name is the name of a segment's file.
func name(part, first int) string { return fmt.Sprintf("p%d.%013d", part, first) }

// singles is the files of segments of a batch each.
func singles(part int, list ...api.Batch) files {
	f := files{}
	for _, b := range list {
		f[name(part, b.Base)] = file(b)
	}
	return f
}

// with is files and more of them.
func with(f files, more ...string) files {
	f = maps.Clone(f)
	for i := 0; i < len(more); i += 2 {
		f[more[i]] = more[i+1]
	}
	return f
}

// without is files without some.
func without(f files, names ...string) files {
	f = maps.Clone(f)
	for _, n := range names {
		delete(f, n)
	}
	return f
}

// laid is a tape with these files, all of them safe, and no act armed.
func laid(t *testing.T, f files) *tape.Tape {
	t.Helper()
	d := tape.New(api.MaxTape)
	for _, n := range slices.Sorted(maps.Keys(f)) {
		is(t, "Append to the tape", d.Append(n, f[n]), api.OK)
		is(t, "Sync of the tape", d.Sync(n), api.OK)
	}
	return d
}

func read(t *testing.T, d *tape.Tape) files {
	t.Helper()
	f := files{}
	for _, n := range d.Names() {
		s, e := d.Read(n)
		is(t, "Read of the tape", e, api.OK)
		f[n] = s
	}
	return f
}

func is(t *testing.T, what string, got, want api.Errno) {
	t.Helper()
	if got != want {
		t.Errorf("%s: %d, want %d", what, got, want)
	}
}

func isFiles(t *testing.T, what string, d *tape.Tape, want files) {
	t.Helper()
	if got := read(t, d); !maps.Equal(got, want) {
		t.Errorf("%s: the files are\n%.900q, want\n%.900q", what, got, want)
	}
}

// alike: whether two lists are equal; lists of nothing are, nil or empty.
func alike[T any](a, b []T) bool {
	return slices.EqualFunc(a, b, func(x, y T) bool { return fmt.Sprintf("%#v", x) == fmt.Sprintf("%#v", y) })
}

func isList[T any](t *testing.T, what string, got, want []T) {
	t.Helper()
	if !alike(got, want) {
		t.Errorf("%s: %v, want %v", what, got, want)
	}
}

// bare is batches whose records, if there are none, are nil.
func bare(list []api.Batch) []api.Batch {
	list = slices.Clone(list)
	for i := range list {
		list[i].Recs = append([]api.Rec(nil), list[i].Recs...)
	}
	return list
}

// state is all that a bin tells.
type state struct {
	start, end int
	all        []api.Batch
	table      []api.Seen
	floor      int
	under      []api.Seen
}

func told(b *bin.Bin) state {
	floor, under := b.Floor()
	return state{b.Start(), b.End(), bare(b.All()), append([]api.Seen(nil), b.Table()...), floor, append([]api.Seen(nil), under...)}
}

// isState: a bin tells just this, in all ways.
func isState(t *testing.T, what string, b *bin.Bin, want state) {
	t.Helper()
	want.all, want.table, want.under = bare(want.all), append([]api.Seen(nil), want.table...), append([]api.Seen(nil), want.under...)
	if got := told(b); !reflect.DeepEqual(got, want) {
		t.Errorf("%s: the bin is\n%v, want\n%v", what, got, want)
	}
	var recs []api.Rec
	for _, x := range want.all {
		recs = append(recs, x.Recs...)
		got, ok := b.Batch(x.Base)
		if !ok || !alike(bare([]api.Batch{got}), bare([]api.Batch{x})) {
			t.Errorf("%s: Batch(%d) = %v, %t", what, x.Base, got, ok)
		}
	}
	isList(t, what+": Read", b.Read(0, math.MaxInt), recs)
}

func opened(t *testing.T, d *tape.Tape, part int, c api.Config) *bin.Bin {
	t.Helper()
	b, e := bin.Open(d, part, c)
	if e != api.OK || b == nil {
		t.Fatal("Open:", b, e)
	}
	return b
}

// takes takes batches, and makes them safe.
func takes(t *testing.T, b *bin.Bin, list ...api.Batch) {
	t.Helper()
	for _, x := range list {
		is(t, fmt.Sprint("Take of ", x), b.Take(x), api.OK)
	}
	is(t, "Sync", b.Sync(), api.OK)
}

// row is batches of the producer 1, of these counts, one behind the other.
func row(counts ...int) []api.Batch {
	var list []api.Batch
	base := 0
	for i, n := range counts {
		list = append(list, batch(base, 1, i, slices.Repeat([]string{"k=v"}, n)...))
		base += n
	}
	return list
}

func TestExample(t *testing.T) {
	b := opened(t, tape.New(1<<12), 2, one)
	x := batch(0, 1, 0, "k=v")
	is(t, "Take", b.Take(x), api.OK)
	is(t, "Take of what came", b.Take(x), api.ErrTwice)
	is(t, "Take", b.Take(batch(1, 2, 0, "k=v")), api.OK)
	is(t, "Clean", b.Clean(2, 9), api.OK)
	if b.Start() != 1 {
		t.Error("Start", b.Start())
	}
	is(t, "Take of what is gone", b.Take(x), api.ErrTwice)
	is(t, "Take of what is gone, at the end", b.Take(batch(2, 1, 0, "k=v")), api.ErrTwice)
}

func TestNil(t *testing.T) {
	var b *bin.Bin
	for what, e := range calls(b) {
		is(t, what, e, api.ErrNil)
	}
	if x, e := b.Check(1, 0); x != (api.Slot{}) || e != api.ErrNil {
		t.Error("Check", x, e)
	}
	for _, n := range numbers {
		if x, ok := b.Batch(n); ok || !reflect.DeepEqual(x, api.Batch{}) {
			t.Error("Batch", n, x, ok)
		}
		if l := b.Read(n, 9); len(l) != 0 {
			t.Error("Read", l)
		}
	}
	isState(t, "a nil bin", b, state{})
}

func TestOpenArguments(t *testing.T) {
	within := func(n, least, most int) bool { return least <= n && n <= most }
	for _, n := range numbers {
		for what, c := range map[string]struct {
			part   int
			config api.Config
			fine   bool
		}{
			"part":    {n, one, within(n, 0, 3)},
			"Seg":     {1, api.Config{Seg: n}, within(n, 1, 1<<20)},
			"Keep":    {1, api.Config{Seg: 1, Keep: n}, within(n, 0, far)},
			"Horizon": {1, api.Config{Seg: 1, Horizon: n}, within(n, 0, far)},
			"others":  {1, api.Config{Nodes: n, Clients: n, Parts: n, Copies: n, Seg: 1, Room: n}, true},
		} {
			want := api.OK
			if !c.fine {
				want = api.ErrArg
			}
			b, e := bin.Open(tape.New(1<<12), c.part, c.config)
			is(t, fmt.Sprint("Open, ", what, " ", n), e, want)
			if (b != nil) != c.fine {
				t.Error("Open", what, n, b)
			}
		}
	}
}

func TestOpenErrorsInOrder(t *testing.T) {
	d := tape.New(1 << 12)
	d.Off()
	for _, c := range []struct {
		tape *tape.Tape
		part int
		conf api.Config
		want api.Errno
	}{
		{nil, -1, api.Config{}, api.ErrNil},
		{nil, 1, one, api.ErrNil},
		{d, 4, one, api.ErrArg},
		{d, 1, api.Config{}, api.ErrArg},
		{d, 1, api.Config{Seg: 1, Keep: -1}, api.ErrArg},
		{d, 1, api.Config{Seg: 1, Horizon: -1}, api.ErrArg},
		{d, 1, one, api.ErrDown},
	} {
		b, e := bin.Open(c.tape, c.part, c.conf)
		is(t, fmt.Sprint("Open of ", c.part, c.conf), e, c.want)
		if b != nil {
			t.Error("a bin beside an error")
		}
	}
}

// Each partition has files of its own, and leaves all others alone.
func TestPartitionsAreApart(t *testing.T) {
	others := files{"p": "a", "p1": "b", "p22": "c", "p2tmp": "d", "seq": "e", ".tmp": "f", "p2.seq.tmp": "g", "p22.seq": "h", "p22.tmp": "i"}
	d := laid(t, others)
	var bins []*bin.Bin
	for part := range 4 {
		b := opened(t, d, part, one)
		takes(t, b, batch(0, 1, 0, "k=v"), batch(1, 2+part, 0, "k=v"))
		bins = append(bins, b)
	}
	for part, b := range bins {
		isState(t, fmt.Sprint("the partition ", part), b, told(opened(t, d, part, one)))
		is(t, "Clean", b.Clean(2, 9), api.OK)
		is(t, "Wipe", b.Wipe(part, nil), api.OK)
	}
	want := others
	for part := range 4 {
		want = with(want, name(part, part), "", fmt.Sprintf("p%d.seq", part), seq(part))
	}
	isFiles(t, "four partitions", d, want)
}

func TestOpenOfNothing(t *testing.T) {
	for part := range 4 {
		d := tape.New(0)
		isState(t, "a bin of nothing", opened(t, d, part, one), state{})
		if len(d.Names()) != 0 || d.Acts() != 0 {
			t.Error(d.Names(), d.Acts())
		}
	}
}

// What was begun of a floor's file is dropped; what a Put left, too.
func TestOpenDropsWhatWasLeft(t *testing.T) {
	list := row(1, 2)
	f := with(singles(2, list...), "p2.seq", seq(0))
	d := laid(t, with(f, "p2.tmp", seq(3, seen(1, [3]int{2, 0, 1})), "p2.new", "x", "p1.tmp", "y"))
	acts := d.Acts()
	b := opened(t, d, 2, one)
	isFiles(t, "Open", d, with(f, "p1.tmp", "y"))
	isState(t, "Open", b, state{0, 3, list, after(t, nil, list...), 0, nil})
	if d.Acts() != acts+2 {
		t.Error(d.Acts() - acts)
	}
}

// What the file .seq tells is remembered, and what stands at its offset or above it is added.
func TestOpenOfAFloor(t *testing.T) {
	list := row(1, 2, 1, 3)
	f := singles(3, list...)
	long := []api.Seen{seen(0, [3]int{5, 0, 2}), seen(1, [3]int{0, 0, 1}), seen(far, [3]int{far, far - 1, far})}
	for _, c := range []struct {
		off   int
		table []api.Seen
		from  int // the first batch that is added
	}{
		{0, nil, 0},
		{0, long, 0}, // a batch that was remembered isn't taken again; those behind it are
		{1, long, 1},
		{2, long, 2}, // no batch begins there; the next one but one doesn't come next
		{3, long, 2},
		{3, []api.Seen{seen(1, [3]int{1, 1, 3})}, 2},
		{3, []api.Seen{seen(1, [3]int{1, 1, 4})}, 2}, // what it tells ends too late
		{4, []api.Seen{seen(1, [3]int{2, 3, 4})}, 3},
		{7, []api.Seen{seen(1, [3]int{2, 3, 4})}, 4},
		{50, nil, 4},
		{far, long, 4},
	} {
		d := laid(t, with(f, "p3.seq", seq(c.off, c.table...)))
		want := state{0, 7, list, after(t, c.table, list[c.from:]...), c.off, c.table}
		isState(t, fmt.Sprint("the floor ", c.off, c.table), opened(t, d, 3, one), want)
		isFiles(t, "Open", d, with(f, "p3.seq", seq(c.off, c.table...)))
	}
}

// The greatest table there is has a place in a frame.
func TestOpenOfTheGreatestFloor(t *testing.T) {
	var table []api.Seen
	for i := range 64 {
		x := api.Seen{Prod: far - 63 + i}
		for j := range 5 {
			x.Slots = append(x.Slots, api.Slot{Seq: far - 4 + j, Base: far - 10 + 2*j, End: far - 9 + 2*j})
		}
		table = append(table, x)
	}
	d := tape.New(api.MaxTape)
	b := opened(t, d, 0, one)
	is(t, "Wipe", b.Wipe(far, table), api.OK)
	isFiles(t, "Wipe", d, files{name(0, far): "", "p0.seq": seq(far, table...)})
	want := state{far, far, nil, table, far, table}
	isState(t, "Wipe", b, want)
	isState(t, "opened again", opened(t, d, 0, one), want)
}

// A file .seq that tells something else is as if there were none.
func TestOpenOfNoFloor(t *testing.T) {
	list := row(1, 2)
	whole := seq(1, seen(1, [3]int{0, 0, 1}))
	table := "lli1eli0ei0ei1eeee"
	for what, s := range map[string]string{
		"of no bytes":           "",
		"whose frame is cut":    whole[:len(whole)-1],
		"whose check is wrong":  whole[:4] + "x" + whole[5:],
		"with a byte behind":    whole + "\x00",
		"of two frames":         whole + whole,
		"of an empty text":      framed(""),
		"of an empty list":      framed("le"),
		"of an offset alone":    framed("li1ee"),
		"of a number":           framed("i1e"),
		"without a list":        framed("i1e18:" + table),
		"with a part more":      framed("li1e18:" + table + "i0ee"),
		"with bytes behind":     framed("li1e18:" + table + "ee"),
		"that doesn't end":      framed("li1e18:" + table),
		"with a list inside":    framed("li1e" + table + "e"),
		"the other way round":   framed("l18:" + table + "i1ee"),
		"with another number":   framed("li01e18:" + table + "e"),
		"of an offset below":    framed("li-1e18:" + table + "e"),
		"of an offset above":    framed(fmt.Sprintf("li%de18:%se", far+1, table)),
		"of the least number":   framed(fmt.Sprintf("li%de18:%se", math.MinInt, table)),
		"of no table":           framed("li1e0:e"),
		"of a table cut":        framed("li1e17:" + table[:17] + "e"),
		"of a table and more":   framed("li1e19:" + table + "ee"),
		"of slots in disorder":  framed("li1e18:lli1eli0ei1ei1eeeee"),
		"of a producer without": framed("li1e7:lli1eeee"),
	} {
		d := laid(t, with(singles(2, list...), "p2.seq", s))
		isState(t, "a file .seq "+what, opened(t, d, 2, one), state{0, 3, list, after(t, nil, list...), 0, nil})
		isFiles(t, "Open", d, with(singles(2, list...), "p2.seq", s))
	}
	d := laid(t, with(singles(2, list...), "p2.seq", framed("li1e18:"+table+"e")))
	isState(t, "a file .seq", opened(t, d, 2, one), state{0, 3, list, after(t, nil, list...), 1, []api.Seen{seen(1, [3]int{0, 0, 1})}})
}

// A batch that layer 6 doesn't take is in the log, and those behind it are added.
func TestOpenOfBatchesThatDoNotCome(t *testing.T) {
	list := []api.Batch{batch(0, 1, 3, "a=1"), batch(1, 2, 0, "a=1"), batch(2, 2, 0, "a=1"), batch(3, 1, 0, "a=1"), batch(4, 2, 1, "a=1")}
	b := opened(t, laid(t, singles(0, list...)), 0, one)
	table := []api.Seen{seen(1, [3]int{0, 3, 4}), seen(2, [3]int{0, 1, 2}, [3]int{1, 4, 5})}
	isState(t, "Open", b, state{0, 5, list, table, 0, nil})
}

// A log that is found shorter than it was is remembered so.
func TestOpenOfALogThatWasCut(t *testing.T) {
	list := row(1, 2, 1)
	f := singles(1, list...)
	f[name(1, 1)] += "x"
	b := opened(t, laid(t, f), 1, one)
	isState(t, "Open", b, state{0, 3, list[:2], after(t, nil, list[:2]...), 0, nil})
}

func TestTake(t *testing.T) {
	d := tape.New(1 << 12)
	b := opened(t, d, 1, api.Config{Seg: 1 << 20})
	list := []api.Batch{batch(0, 1, 0, "a=1", "b"), batch(2, 0, 0, "=x"), batch(3, 1, 1, "a=2"), batch(4, far, 0, "c=1", "c=2", "c=3")}
	list[2].Time = far
	list = append(list, api.Batch{Base: 7, Count: 3, Prod: 1, Seq: 2}, api.Batch{Base: 10, Count: 8, Prod: 1, Seq: 3, Recs: []api.Rec{{Off: 13, Key: "k"}}})
	for i, x := range list {
		is(t, "Take", b.Take(x), api.OK)
		isState(t, "Take", b, state{0, x.Base + x.Count, list[:i+1], after(t, nil, list[:i+1]...), 0, nil})
	}
	isFiles(t, "Take", d, files{name(1, 0): file(list...)})
	isState(t, "opened again", opened(t, d, 1, one), told(b))
}

// What is refused, and by which of the errors that apply; nothing has changed then.
func TestTakeErrorsInOrder(t *testing.T) {
	d := tape.New(1 << 12)
	b := opened(t, d, 3, one)
	takes(t, b, row(1, 2, 1, 1, 1, 1, 1)...)
	before, f := told(b), read(t, d)
	none := batch(8, 1, 7, "k=v")
	none.Recs[0].Off = 9
	for _, c := range []struct {
		what string
		x    api.Batch
		want api.Errno
	}{
		{"of none", api.Batch{}, api.ErrArg},
		{"of one whose record isn't at its offset", none, api.ErrArg},
		{"of none that was", api.Batch{Base: 0, Count: 0, Prod: 1, Seq: 6}, api.ErrArg},
		{"of a producer that is none", batch(8, -1, 0, "k=v"), api.ErrArg},
		{"of a number that is none", batch(8, 1, -1, "k=v"), api.ErrArg},
		{"of what came", batch(8, 1, 6, "k=v"), api.ErrTwice},
		{"of what came, elsewhere", batch(0, 1, 2, "k=v"), api.ErrTwice},
		{"of what came long ago", batch(8, 1, 1, "k=v"), api.ErrOld},
		{"of what came long ago, elsewhere", batch(9, 1, 0, "k=v"), api.ErrOld},
		{"of what comes too soon", batch(8, 1, 8, "k=v"), api.ErrOrder},
		{"of a new producer's, too soon", batch(8, 2, 1, "k=v"), api.ErrOrder},
		{"above the end", batch(9, 1, 7, "k=v"), api.ErrOrder},
		{"below the end", batch(7, 1, 7, "k=v"), api.ErrOrder},
		{"at the beginning", batch(0, 2, 0, "k=v"), api.ErrOrder},
	} {
		is(t, "Take "+c.what, b.Take(c.x), c.want)
		isState(t, "Take "+c.what, b, before)
	}
	isFiles(t, "batches that were refused", d, f)
	takes(t, b, batch(8, 1, 7, "k=v"))
}

// A wiped partition may end below what is remembered of a producer: its next batch would be remembered ahead of those.
func TestTakeBelowWhatIsRemembered(t *testing.T) {
	b := opened(t, tape.New(1<<12), 1, one)
	is(t, "Wipe", b.Wipe(5, []api.Seen{seen(1, [3]int{0, 3, 6})}), api.OK)
	before := told(b)
	is(t, "Take below", b.Take(batch(5, 1, 1, "k=v")), api.ErrOrder)
	isState(t, "Take below", b, before)
	takes(t, b, batch(5, 2, 0, "k=v"), batch(6, 1, 1, "k=v"))
}

func TestTakeOfProducersThatAreTooMany(t *testing.T) {
	d := tape.New(1 << 16)
	b := opened(t, d, 1, api.Config{Seg: 200})
	var list []api.Batch
	for i := range 64 {
		list = append(list, batch(i, 2*i, 0, "k=v"))
	}
	takes(t, b, list...)
	before, f := told(b), read(t, d)
	is(t, "the 65th producer", b.Take(batch(64, 7, 0, "k=v")), api.ErrArg)
	is(t, "the 65th producer, elsewhere", b.Take(batch(65, 7, 0, "k=v")), api.ErrArg)
	is(t, "the 65th producer's second batch", b.Take(batch(64, 7, 1, "k=v")), api.ErrOrder)
	isState(t, "the 65th producer", b, before)
	isFiles(t, "the 65th producer", d, f)
	takes(t, b, batch(64, 126, 1, "k=v"))
	if l := b.Table(); len(l) != 64 {
		t.Error(len(l))
	}
}

func TestTakeWithoutRoom(t *testing.T) {
	for _, seg := range []int{1, 1 << 20} {
		list := row(1, 1, 1)
		d := tape.New(len(file(list...)) - 1)
		b := opened(t, d, 2, api.Config{Seg: seg})
		takes(t, b, list[:2]...)
		before, f := told(b), read(t, d)
		for range 2 {
			is(t, "Take without room", b.Take(list[2]), api.ErrFull)
			isState(t, "Take without room", b, before)
			isFiles(t, "Take without room", d, f)
		}
		is(t, "Take without room, of what came", b.Take(list[1]), api.ErrTwice)
		is(t, "Take without room, elsewhere", b.Take(batch(3, 1, 2, "k=v")), api.ErrOrder)
		x := list[2]
		x.Recs = nil
		takes(t, b, x)
	}
}

// The last 5 batches of each producer are remembered, wherever they stand.
func TestCheck(t *testing.T) {
	b := opened(t, tape.New(1<<12), 0, api.Config{Seg: 150})
	takes(t, b, row(1, 2, 3, 4, 5, 6, 7)...)
	takes(t, b, batch(28, 9, 0, "k=v"))
	for _, c := range []struct {
		prod, seq int
		slot      api.Slot
		want      api.Errno
	}{
		{1, 6, api.Slot{Seq: 6, Base: 21, End: 28}, api.ErrTwice},
		{1, 2, api.Slot{Seq: 2, Base: 3, End: 6}, api.ErrTwice},
		{9, 0, api.Slot{Seq: 0, Base: 28, End: 29}, api.ErrTwice},
		{1, 1, api.Slot{}, api.ErrOld},
		{1, 7, api.Slot{}, api.OK},
		{1, 8, api.Slot{}, api.ErrOrder},
		{9, 1, api.Slot{}, api.OK},
		{2, 0, api.Slot{}, api.OK},
		{2, 1, api.Slot{}, api.ErrOrder},
		{-1, 0, api.Slot{}, api.ErrArg},
		{1, -1, api.Slot{}, api.ErrArg},
		{far + 1, 0, api.Slot{}, api.ErrArg},
		{1, far + 1, api.Slot{}, api.ErrArg},
	} {
		if x, e := b.Check(c.prod, c.seq); x != c.slot || e != c.want {
			t.Errorf("Check(%d, %d) = %v, %d", c.prod, c.seq, x, e)
		}
	}
}

// What is synced stays, of what was taken behind it a beginning does, and that is remembered.
func TestSync(t *testing.T) {
	list := row(1, 1, 1, 1)
	for n := range len(file(list[2:]...)) + 1 {
		d := tape.New(1 << 12)
		b := opened(t, d, 1, api.Config{Seg: 1 << 20})
		takes(t, b, list[:2]...)
		is(t, "Take", b.Take(list[2]), api.OK)
		is(t, "Take", b.Take(list[3]), api.OK)
		d.Off()
		for _, x := range list {
			is(t, "Take with the power off", b.Take(x), api.ErrDown)
		}
		d.On([]int{n})
		stay := 2 + min(n/len(file(list[2])), 2)
		isState(t, fmt.Sprint("of the bytes ", n), opened(t, d, 1, one), state{0, stay, list[:stay], after(t, nil, list[:stay]...), 0, nil})
	}
}

// calls makes each call with an error, with arguments that are right, and that are wrong.
func calls(b *bin.Bin) map[string]api.Errno {
	_, check := b.Check(1, 0)
	_, none := b.Check(-1, 0)
	return map[string]api.Errno{
		"Take": b.Take(batch(b.End(), 7, 0, "k=v")), "Take of none": b.Take(api.Batch{}), "Take of what came": b.Take(batch(b.End(), 1, 0, "k=v")), "Take elsewhere": b.Take(batch(b.End()+1, 7, 0, "k=v")), "Sync": b.Sync(),
		"Check": check, "Check of none": none, "Clean": b.Clean(b.End(), 0), "Clean of nothing": b.Clean(-1, -1),
		"Wipe": b.Wipe(0, nil), "Wipe to none": b.Wipe(-1, nil), "Wipe with none": b.Wipe(0, make([]api.Seen, 1)),
	}
}

// A bin whose power went is of no use any more, with the power back, too, but tells what it told.
func TestDown(t *testing.T) {
	for part := range 4 {
		d := tape.New(1 << 12)
		b := opened(t, d, part, one)
		takes(t, b, row(1, 2, 1)...)
		is(t, "Clean", b.Clean(1, 9), api.OK)
		before := told(b)
		d.Off()
		for _, how := range []string{"off", "on"} {
			for what, e := range calls(b) {
				is(t, "the power "+how+", "+what, e, api.ErrDown)
			}
			isState(t, "the power "+how, b, before)
			d.On(nil)
		}
		for what, e := range calls(opened(t, d, part, one)) {
			if e == api.ErrDown {
				t.Error(what, e)
			}
		}
	}
}

// steps makes a call over and over, with the power going in its first act, its second and so on, all bytes being kept, and tells the tape's files behind each, those of the call that came to its end last. Its codes are ErrDown, then want.
func steps(t *testing.T, what string, f files, part int, c api.Config, call func(b *bin.Bin) api.Errno, want api.Errno) []files {
	t.Helper()
	var list []files
	for n := 1; ; n++ {
		d := laid(t, f)
		b := opened(t, d, part, c)
		d.Arm(n)
		e := call(b)
		if !d.Down() {
			is(t, what, e, want)
			return append(list, read(t, d))
		}
		is(t, what, e, api.ErrDown)
		for k, e := range calls(b) {
			is(t, fmt.Sprint(what, ", then ", k), e, api.ErrDown)
		}
		d.On([]int{-1})
		for k, e := range calls(b) {
			is(t, fmt.Sprint(what, ", the power back, then ", k), e, api.ErrDown)
		}
		list = append(list, read(t, d))
	}
}

// What each call does with the tape, act by act.
func TestActs(t *testing.T) {
	list := row(1, 2, 1, 1)
	list[0].Recs[0].Key = "a"
	f := map[int]files{}
	for part := range 4 {
		f[part] = singles(part, list...)
	}
	two, three := seq(1, seen(1, [3]int{0, 0, 1})), seq(4, seen(1, [3]int{0, 0, 1}, [3]int{1, 1, 3}, [3]int{2, 3, 4}))
	old := with(f[2], "p2.seq", two)
	empty := files{name(2, 9): "", "p2.seq": two}
	table := []api.Seen{seen(0, [3]int{3, 0, 1})}
	wiped := seq(9, table...)
	thin := []api.Batch{list[1], list[2]}
	thin[0].Recs, thin[1].Recs = nil, nil
	first, second := name(1, 1), name(1, 3)
	half := with(f[1], first, file(thin[0]))
	clean := func(high int) func(*bin.Bin) api.Errno {
		return func(b *bin.Bin) api.Errno { return b.Clean(high, 0) }
	}
	wipe := func(b *bin.Bin) api.Errno { return b.Wipe(9, table) }
	for _, c := range []struct {
		what string
		part int
		f    files
		call func(b *bin.Bin) api.Errno
		want []files // behind each act
	}{
		{"Take", 2, f[2], func(b *bin.Bin) api.Errno { return b.Take(batch(5, 1, 4, "k=v")) }, []files{f[2], with(f[2], name(2, 5), file(batch(5, 1, 4, "k=v")))}},
		{"Take of what came", 2, f[2], func(b *bin.Bin) api.Errno {
			if b.Take(list[0]) == api.ErrTwice {
				return api.OK
			}
			return api.ErrState
		}, nil},
		{"Sync", 2, f[2], (*bin.Bin).Sync, []files{f[2]}},
		{"Clean of the partition 0", 0, f[0], clean(9), nil},
		{"Clean of an even one, of nothing", 2, f[2], clean(0), []files{f[2]}},
		{"Clean of an even one", 2, f[2], clean(4), []files{f[2], with(f[2], "p2.tmp", three), with(f[2], "p2.tmp", three), with(f[2], "p2.seq", three),
			without(with(f[2], "p2.seq", three), name(2, 0)), without(with(f[2], "p2.seq", three), name(2, 0), name(2, 1)), without(with(f[2], "p2.seq", three), name(2, 0), name(2, 1), name(2, 3))}},
		{"Clean of an even one again", 2, old, clean(1), []files{old, with(old, "p2.tmp", two), with(old, "p2.tmp", two), old, without(old, name(2, 0))}},
		{"Clean of an odd one, of nothing", 1, f[1], clean(1), []files{f[1]}},
		{"Clean of an odd one", 1, f[1], clean(5), []files{f[1], with(f[1], "p1.new", file(thin[0])), with(f[1], "p1.new", file(thin[0])), half, with(half, "p1.new", file(thin[1])), with(half, "p1.new", file(thin[1])), with(half, second, file(thin[1]))}},
		{"Wipe", 2, old, wipe, []files{without(old, name(2, 0)), without(old, name(2, 0), name(2, 1)), without(old, name(2, 0), name(2, 1), name(2, 3)), {"p2.seq": two}, empty, empty,
			with(empty, "p2.tmp", wiped), with(empty, "p2.tmp", wiped), with(empty, "p2.seq", wiped)}},
	} {
		got := steps(t, c.what, c.f, c.part, one, c.call, api.OK)
		// In the end there is what the last act left, or what was there.
		want := append(c.want, append([]files{c.f}, c.want...)[len(c.want)])
		if !reflect.DeepEqual(got, want) {
			t.Errorf("%s: act by act\n%.3000q, want\n%.3000q", c.what, got, want)
		}
	}
}

// sizes are the bytes of segments of a batch each.
func sizes(list []api.Batch) []int {
	var l []int
	for _, x := range list {
		l = append(l, len(file(x)))
	}
	return l
}

// Of an even partition the first segments go, as many as are too much, and no more than are below the watermark.
func TestCleanOfAnEvenOne(t *testing.T) {
	list := row(1, 2, 3, 1, 8, 1)
	bytes := sizes(list)
	all := len(file(list...))
	for _, keep := range []int{0, 1, bytes[5], all - bytes[0] - bytes[1] - 1, all - bytes[0] - bytes[1], all - bytes[0], all - 1, all, all + 1, far} {
		for high := -1; high <= 18; high++ {
			d := laid(t, singles(2, list...))
			b := opened(t, d, 2, api.Config{Seg: 1, Keep: keep})
			acts := d.Acts()
			is(t, "Clean", b.Clean(high, 9), api.OK)
			n, rest := 0, all
			for n < 5 && rest > keep && list[n+1].Base <= high {
				rest -= bytes[n]
				n++
			}
			want := state{list[n].Base, 16, list[n:], after(t, nil, list...), list[n].Base, after(t, nil, list[:n]...)}
			f := singles(2, list[n:]...)
			if n == 0 && d.Acts() != acts+1 || n > 0 && d.Acts() != acts+4+n {
				t.Error("acts", n, d.Acts()-acts)
			}
			if n > 0 {
				f = with(f, "p2.seq", seq(want.floor, want.under...))
			}
			what := fmt.Sprint("Clean, keep ", keep, ", high ", high)
			isState(t, what, b, want)
			isFiles(t, what, d, f)
			isState(t, what+", opened again", opened(t, d, 2, api.Config{Seg: 1, Keep: keep}), want)
			is(t, "Clean again", b.Clean(high, 9), api.OK)
			isState(t, what+", again", b, want)
		}
	}
}

// A segment has more batches than one, too; the floor goes on from the floor ahead of it, and what it tells is made safe first.
func TestCleanTimeAndAgain(t *testing.T) {
	d := tape.New(1 << 16)
	c := api.Config{Seg: 100, Keep: 200}
	var all []api.Batch
	b := opened(t, d, 2, c)
	seqs := map[int]int{}
	end := 0
	for i := range 120 {
		prod := i * i % 7
		x := batch(end, prod, seqs[prod], slices.Repeat([]string{"k=v"}, 1+i%3)...)
		seqs[prod]++
		end += len(x.Recs)
		is(t, "Take", b.Take(x), api.OK)
		all = append(all, x)
		if i%5 > 0 {
			continue
		}
		start := b.Start()
		is(t, "Clean", b.Clean(end, i), api.OK)
		d.Off()
		d.On(nil)
		b = opened(t, d, 2, c)
		gone := slices.IndexFunc(all, func(x api.Batch) bool { return x.Base == b.Start() })
		if gone < 0 || b.Start() < start {
			t.Fatal("Start", b.Start())
		}
		isState(t, fmt.Sprint("behind ", i), b, state{b.Start(), end, all[gone:], after(t, nil, all...), b.Start(), after(t, nil, all[:gone]...)})
		// What goes is whole segments, and the last one has up to 100 bytes and a batch.
		if n := len(file(all[gone:]...)); n > 400 {
			t.Error("there is too much", n)
		}
	}
	if b.Start() == 0 {
		t.Error("nothing went")
	}
}

// A log that begins with a floor above its first segments is told by it, though fewer segments go now.
func TestCleanBelowTheFloor(t *testing.T) {
	list := row(1, 1, 1, 1, 1, 1, 1, 1)
	d := laid(t, singles(2, list...))
	b := opened(t, d, 2, one)
	d.Arm(4)
	is(t, "Clean", b.Clean(7, 9), api.ErrDown)
	d.On(nil)
	isFiles(t, "the power gone in the Swap", d, with(singles(2, list...), "p2.seq", seq(7, after(t, nil, list[:7]...)...)))
	b = opened(t, d, 2, one)
	under := after(t, nil, list[:7]...)
	isState(t, "opened again", b, state{0, 8, list, after(t, nil, list...), 7, under})
	is(t, "Clean of fewer", b.Clean(2, 9), api.OK)
	want := state{2, 8, list[2:], after(t, nil, list...), 7, under}
	isState(t, "Clean of fewer", b, want)
	isState(t, "Clean of fewer, opened again", opened(t, d, 2, one), want)
	takes(t, b, batch(8, 1, 8, "k=v"))
	is(t, "Clean of all", b.Clean(9, 9), api.OK)
	list = append(list, batch(8, 1, 8, "k=v"))
	want = state{8, 9, list[8:], after(t, nil, list...), 8, after(t, nil, list[:8]...)}
	isState(t, "Clean of all", b, want)
	isState(t, "Clean of all, opened again", opened(t, d, 2, one), want)
}

// Where the file .seq finds no room, nothing goes.
func TestCleanWithoutRoom(t *testing.T) {
	list := row(1, 1, 1)
	floor := seq(2, after(t, nil, list[:2]...)...)
	for _, left := range []int{0, 1, len(floor) - 1, len(floor)} {
		d := tape.New(len(file(list...)) + left)
		b := opened(t, d, 2, one)
		takes(t, b, list...)
		before, f := told(b), read(t, d)
		if left == len(floor) {
			is(t, "Clean", b.Clean(3, 9), api.OK)
			isFiles(t, "Clean", d, with(singles(2, list[2]), "p2.seq", floor))
			continue
		}
		is(t, "Clean without room", b.Clean(3, 9), api.ErrFull)
		isState(t, "Clean without room", b, before)
		isFiles(t, "Clean without room", d, f)
		// What was taken ahead of it is safe.
		d.Off()
		d.On(nil)
		isState(t, "Clean without room, opened again", opened(t, d, 2, one), before)
	}
}

// What somebody laid down as the file .tmp isn't in the way of a floor.
func TestFloorBesideAFile(t *testing.T) {
	list := row(1, 1)
	d := laid(t, singles(2, list...))
	b := opened(t, d, 2, one)
	is(t, "Append to the tape", d.Append("p2.tmp", "x"), api.OK)
	is(t, "Clean", b.Clean(2, 9), api.OK)
	isFiles(t, "Clean", d, with(singles(2, list[1]), "p2.seq", seq(1, after(t, nil, list[0])...)))
	is(t, "Append to the tape", d.Append("p2.tmp", "x"), api.OK)
	is(t, "Wipe", b.Wipe(3, nil), api.OK)
	isFiles(t, "Wipe", d, files{name(2, 3): "", "p2.seq": seq(3)})
}

// keys is a log of an odd partition, a batch of two records a segment but the last one, at the times from 0 on.
func keys() []api.Batch {
	list := []api.Batch{batch(0, 1, 0, "a=1", "b=1"), batch(2, 1, 1, "a", "=x"), batch(4, 1, 2, "c=1", "b=2"), batch(6, 1, 3, "a=2", "c"), batch(8, 1, 4, "d", "b=3")}
	for i := range list {
		list[i].Time = i
	}
	return list
}

// offs is the offsets of the records that are there, a dot behind each batch.
func offs(list []api.Batch) string {
	s := ""
	for _, x := range list {
		for _, rec := range x.Recs {
			s += fmt.Sprint(rec.Off)
		}
		s += "."
	}
	return s
}

// Of an odd partition useless records go, out of each segment that ends at the watermark or below it, but the last one.
func TestCleanOfAnOddOne(t *testing.T) {
	list := keys()
	for _, c := range []struct {
		high, now, horizon int
		want               string
		puts               int
	}{
		{0, 99, 0, "01.23.45.67.89.", 0},
		{2, 99, 0, "01.23.45.67.89.", 0},
		{3, 0, 9, "1.23.45.67.89.", 1}, // a at 2 is below the watermark, its segment isn't
		{3, 99, 0, "1.23.45.67.89.", 1},
		{4, 1, 1, "1.23.45.67.89.", 1},
		{4, 1, 0, "1.3.45.67.89.", 2}, // a is Gone, long ago
		{6, 1, 1, ".23.45.67.89.", 1},
		{8, 2, 9, ".3.5.67.89.", 3},
		{8, 3, 0, ".3.5.6.89.", 4},
		{8, 3, 1, ".3.5.67.89.", 3},
		{9, 3, 1, ".3.5.67.89.", 3},
		{10, 3, 1, ".3..67.89.", 3},
		{10, 99, 1, ".3..6.89.", 4},
		{99, 99, 0, ".3..6.89.", 4},
		{math.MaxInt, far, far, ".3..67.89.", 3},
		{10, -1, 0, "01.23.45.67.89.", 0},
		{10, far + 1, 0, "01.23.45.67.89.", 0},
		{-1, 99, 0, "01.23.45.67.89.", 0},
		{math.MinInt, math.MinInt, 0, "01.23.45.67.89.", 0},
	} {
		for _, part := range []int{1, 3} {
			what := fmt.Sprint("Clean of ", part, ", high ", c.high, ", now ", c.now, ", horizon ", c.horizon)
			d := laid(t, singles(part, list...))
			conf := api.Config{Seg: 1, Keep: 0, Horizon: c.horizon}
			b := opened(t, d, part, conf)
			acts := d.Acts()
			is(t, what, b.Clean(c.high, c.now), api.OK)
			if got := offs(b.All()); got != c.want || d.Acts() != acts+1+3*c.puts {
				t.Errorf("%s: %s, %d acts, want %s", what, got, d.Acts()-acts, c.want)
			}
			want := state{0, 10, b.All(), after(t, nil, list...), 0, nil}
			isState(t, what, b, want)
			isFiles(t, what, d, singles(part, b.All()...))
			isState(t, what+", opened again", opened(t, d, part, conf), want)
			is(t, what+", again", b.Clean(c.high, c.now), api.OK)
			isState(t, what+", again", b, want)
		}
	}
}

// Segments of several batches are put whole.
func TestCleanOfLongSegments(t *testing.T) {
	list := keys()
	seg := len(file(list[:2]...))
	d := tape.New(1 << 12)
	c := api.Config{Seg: seg, Horizon: 9}
	b := opened(t, d, 1, c)
	takes(t, b, list...)
	is(t, "Clean", b.Clean(7, 9), api.OK)
	if got := offs(b.All()); got != ".3.45.67.89." {
		t.Error(got)
	}
	is(t, "Clean", b.Clean(10, 9), api.OK)
	if got := offs(b.All()); got != ".3..67.89." {
		t.Error(got)
	}
	is(t, "Clean", b.Clean(10, 99), api.OK)
	if got := offs(b.All()); got != ".3..6.89." {
		t.Error(got)
	}
	l := b.All()
	isFiles(t, "Clean", d, files{name(1, 0): file(l[:2]...), name(1, 4): file(l[2:4]...), name(1, 8): file(l[4])})
	isState(t, "opened again", opened(t, d, 1, c), state{0, 10, l, after(t, nil, list...), 0, nil})
}

// Where a Put finds no room, what was put ahead of it stays.
func TestCleanOfAnOddOneWithoutRoom(t *testing.T) {
	list := keys()
	list[1].Recs = list[1].Recs[:0]
	list[2].Recs = append(list[2].Recs, api.Rec{Off: 6, Key: "z", Val: strings.Repeat("v", 64)})
	list[2].Count, list[3].Base, list[4].Base = 3, 7, 9
	for i := range list[3].Recs {
		list[3].Recs[i].Off++
		list[4].Recs[i].Off++
	}
	d := tape.New(len(file(list...)) + len(file(list[0])))
	b := opened(t, d, 1, api.Config{Seg: 1, Horizon: 9})
	takes(t, b, list...)
	is(t, "Clean without room", b.Clean(11, 9), api.ErrFull)
	if got := offs(b.All()); got != "..456.78.910." {
		t.Error(got)
	}
	isFiles(t, "Clean without room", d, singles(1, b.All()...))
	before := told(b)
	d.Off()
	d.On(nil)
	isState(t, "opened again", opened(t, d, 1, one), before)
}

// Of the partition 0 nothing is done: nothing is made safe, either.
func TestCleanOfThePartition0(t *testing.T) {
	d := tape.New(1 << 12)
	b := opened(t, d, 0, one)
	takes(t, b, keys()...)
	is(t, "Take", b.Take(batch(10, 1, 5, "a=9")), api.OK)
	before, acts := told(b), d.Acts()
	is(t, "Clean", b.Clean(11, 99), api.OK)
	isState(t, "Clean", b, before)
	if d.Acts() != acts {
		t.Error("acts", d.Acts()-acts)
	}
	d.Off()
	d.On(nil)
	if end := opened(t, d, 0, one).End(); end != 10 {
		t.Error("End", end)
	}
}

// A Clean makes all safe, though nothing goes.
func TestCleanSyncs(t *testing.T) {
	for part := 1; part < 4; part++ {
		d := tape.New(1 << 12)
		b := opened(t, d, part, one)
		is(t, "Clean of nothing", b.Clean(9, 9), api.OK)
		is(t, "Take", b.Take(batch(0, 1, 0, "a=1")), api.OK)
		is(t, "Clean", b.Clean(-1, 9), api.OK)
		d.Off()
		d.On(nil)
		if end := opened(t, d, part, one).End(); end != 1 {
			t.Error("End", end)
		}
	}
}

func TestWipe(t *testing.T) {
	for _, off := range []int{0, 1, 2, 50, far} {
		for _, table := range [][]api.Seen{nil, {seen(1, [3]int{3, 60, 61}, [3]int{4, 61, 63})}, {seen(1, [3]int{0, 0, 1}), seen(7, [3]int{far, 0, far})}} {
			for part := range 4 {
				list := row(1, 2)
				d := tape.New(1 << 12)
				b := opened(t, d, part, one)
				takes(t, b, list...)
				for range 2 {
					is(t, "Wipe", b.Wipe(off, table), api.OK)
					what := fmt.Sprint("Wipe to ", off, " with ", table)
					want := state{off, off, nil, table, off, table}
					isState(t, what, b, want)
					isFiles(t, what, d, files{name(part, off): "", fmt.Sprintf("p%d.seq", part): seq(off, table...)})
					d.Off()
					d.On(nil)
					b = opened(t, d, part, one)
					isState(t, what+", opened again", b, want)
				}
				if off < far {
					x := batch(off, 2, 0, "k=v")
					takes(t, b, x)
					isState(t, "behind a Wipe", opened(t, d, part, one), state{off, off + 1, []api.Batch{x}, after(t, table, x), off, table})
				}
			}
		}
	}
}

// A floor goes on from what a Wipe told.
func TestCleanBehindAWipe(t *testing.T) {
	d := tape.New(1 << 12)
	b := opened(t, d, 2, one)
	table := []api.Seen{seen(1, [3]int{3, 6, 7}, [3]int{4, 7, 9}), seen(2, [3]int{0, 9, 10})}
	is(t, "Wipe", b.Wipe(10, table), api.OK)
	list := []api.Batch{batch(10, 1, 5, "k=v"), batch(11, 3, 0, "k=v"), batch(12, 1, 6, "k=v")}
	takes(t, b, list...)
	is(t, "Clean", b.Clean(12, 9), api.OK)
	want := state{12, 13, list[2:], after(t, table, list...), 12, after(t, table, list[:2]...)}
	isState(t, "Clean", b, want)
	isState(t, "opened again", opened(t, d, 2, one), want)
}

func TestWipeToNone(t *testing.T) {
	d := tape.New(1 << 12)
	b := opened(t, d, 2, one)
	takes(t, b, row(1, 2)...)
	before, f := told(b), read(t, d)
	for _, n := range numbers {
		if n < 0 || n > far {
			is(t, fmt.Sprint("Wipe to ", n), b.Wipe(n, nil), api.ErrArg)
		}
	}
	for what, table := range map[string][]api.Seen{
		"of a producer without slots": {{Prod: 1}},
		"of none's slot":              {seen(-1, [3]int{0, 0, 1})},
		"of an empty slot":            {seen(1, [3]int{0, 1, 1})},
		"that doesn't rise":           {seen(1, [3]int{0, 0, 1}), seen(1, [3]int{0, 0, 1})},
		"with a gap":                  {seen(1, [3]int{0, 0, 1}, [3]int{2, 1, 2})},
		"of six slots":                {seen(1, [3]int{0, 0, 1}, [3]int{1, 1, 2}, [3]int{2, 2, 3}, [3]int{3, 3, 4}, [3]int{4, 4, 5}, [3]int{5, 5, 6})},
		"of 65 producers":             many(65),
	} {
		is(t, "Wipe with a table "+what, b.Wipe(5, table), api.ErrArg)
	}
	isState(t, "Wipe to none", b, before)
	isFiles(t, "Wipe to none", d, f)
	is(t, "Wipe", b.Wipe(5, many(64)), api.OK)
}

// many is a table of so many producers.
func many(n int) []api.Seen {
	var table []api.Seen
	for i := range n {
		table = append(table, seen(i, [3]int{0, i, i + 1}))
	}
	return table
}

// Where the file .seq finds no room, the log is empty, and what is remembered is what was; it can be wiped again.
func TestWipeWithoutRoom(t *testing.T) {
	d := tape.New(200)
	b := opened(t, d, 1, one)
	list := row(1, 1)
	takes(t, b, list...)
	is(t, "Wipe without room", b.Wipe(5, many(20)), api.ErrFull)
	isState(t, "Wipe without room", b, state{5, 5, nil, after(t, nil, list...), 0, nil})
	isFiles(t, "Wipe without room", d, files{name(1, 5): ""})
	is(t, "Wipe", b.Wipe(6, many(2)), api.OK)
	isState(t, "Wipe", b, state{6, 6, nil, many(2), 6, many(2)})
	// All the places of files are others'.
	d = tape.New(1 << 12)
	b = opened(t, d, 1, one)
	for i := range api.MaxFiles {
		is(t, "Append to the tape", d.Append(fmt.Sprint("f", i), ""), api.OK)
	}
	is(t, "Wipe without a file", b.Wipe(5, nil), api.ErrFull)
	isState(t, "Wipe without a file", b, state{})
	is(t, "Drop on the tape", d.Drop("f0"), api.OK)
	is(t, "Wipe with one file", b.Wipe(5, nil), api.ErrFull)
	is(t, "Drop on the tape", d.Drop("f1"), api.OK)
	is(t, "Wipe with two files", b.Wipe(5, nil), api.OK)
	isState(t, "Wipe with two files", b, state{5, 5, nil, nil, 5, nil})
}

func TestRead(t *testing.T) {
	b := opened(t, tape.New(1<<12), 1, api.Config{Seg: 1, Horizon: 9})
	takes(t, b, keys()...)
	is(t, "Clean", b.Clean(10, 9), api.OK) // .3..67.89.
	for _, c := range []struct {
		off, most int
		want      string
	}{
		{0, 9, "36789"}, {math.MinInt, math.MaxInt, "36789"}, {3, 9, "36789"}, {4, 9, "6789"}, {7, 9, "789"}, {9, 9, "9"}, {10, 9, ""}, {math.MaxInt, 9, ""},
		{0, 0, ""}, {0, -1, ""}, {0, math.MinInt, ""}, {0, 1, "3"}, {4, 3, "678"},
	} {
		got := ""
		for _, rec := range b.Read(c.off, c.most) {
			got += fmt.Sprint(rec.Off)
		}
		if got != c.want {
			t.Errorf("Read(%d, %d): %s, want %s", c.off, c.most, got, c.want)
		}
	}
}

// A batch is found by its Base alone, one without records, too.
func TestBatch(t *testing.T) {
	list := row(1, 3, 2)
	list[1].Recs = nil
	b := opened(t, laid(t, singles(2, list...)), 2, one)
	for _, n := range append([]int{6, 7, 8}, numbers...) {
		x, ok := b.Batch(n)
		i := slices.IndexFunc(list, func(x api.Batch) bool { return x.Base == n })
		if ok != (i >= 0) || !ok && !reflect.DeepEqual(x, api.Batch{}) || ok && !alike(bare([]api.Batch{x}), bare(list[i:i+1])) {
			t.Errorf("Batch(%d) = %v, %t", n, x, ok)
		}
	}
	is(t, "Clean", b.Clean(4, 0), api.OK)
	if _, ok := b.Batch(0); ok {
		t.Error("Batch of what is gone")
	}
	if x, ok := b.Batch(4); !ok || x.Seq != 2 {
		t.Error("Batch", x, ok)
	}
}

// No call panics, whatever it is given.
func TestAnyNumbers(t *testing.T) {
	for part := range 4 {
		d := tape.New(1 << 14)
		b := opened(t, d, part, api.Config{Seg: 1, Keep: far, Horizon: far})
		takes(t, b, keys()...)
		for _, n := range numbers {
			for _, m := range numbers {
				b.Clean(n, m)
				b.Check(n, m)
				b.Read(n, min(m, 9))
				is(t, "Take of none", b.Take(api.Batch{Base: n, Count: m, Prod: -1}), api.ErrArg)
			}
			b.Batch(n)
		}
		for _, n := range numbers {
			b.Wipe(n, []api.Seen{seen(n, [3]int{n, n, n + 1})})
		}
	}
}

// spoil changes all that lists hold, and their spare room.
func spoil(list []api.Batch, table []api.Seen) {
	for i := range list {
		recs := list[i].Recs[:cap(list[i].Recs)]
		for j := range recs {
			recs[j] = api.Rec{Off: -1, Key: "spoilt"}
		}
		list[i] = api.Batch{Base: -1}
	}
	for i := range table {
		slots := table[i].Slots[:cap(table[i].Slots)]
		for j := range slots {
			slots[j] = api.Slot{Seq: -1}
		}
		table[i] = api.Seen{Prod: -1}
	}
	clear(table[len(table):cap(table)])
}

// What is answered is new memory, each time.
func TestAnswersAreNew(t *testing.T) {
	b := opened(t, tape.New(1<<12), 2, api.Config{Seg: 1, Keep: 120})
	takes(t, b, row(1, 2, 1, 2)...)
	is(t, "Clean", b.Clean(4, 9), api.OK)
	before := told(b)
	all, again := b.All(), b.All()
	table, under := b.Table(), []api.Seen(nil)
	_, under = b.Floor()
	if len(table) == 0 || len(under) == 0 {
		t.Fatal(table, under)
	}
	spoil(all, table)
	spoil(nil, under)
	isList(t, "another answer", again, before.all)
	x, _ := b.Batch(b.Start())
	spoil([]api.Batch{x}, nil)
	recs := b.Read(0, 99)
	for i := range recs {
		recs[i] = api.Rec{}
	}
	isState(t, "behind changed answers", b, before)
	takes(t, b, batch(6, 1, 4, "k=v"))
	is(t, "Clean", b.Clean(7, 9), api.OK)
	if off, table := b.Floor(); !alike(table, after(t, before.under, before.all[:len(before.all)-len(b.All())+1]...)) || off != b.Start() {
		t.Error("Floor", off, table)
	}
}

// What is handed in is neither changed nor kept, its spare room neither.
func TestWhatIsHandedInIsNotKept(t *testing.T) {
	b := opened(t, tape.New(1<<12), 1, one)
	slots := append(make([]api.Slot, 0, 9), api.Slot{Seq: 1, Base: 2, End: 3})
	table := append(make([]api.Seen, 0, 4), api.Seen{Prod: 1, Slots: slots}, api.Seen{Prod: 2, Slots: slots})
	is(t, "Wipe", b.Wipe(5, table), api.OK)
	x := batch(5, 1, 2, "a=1", "b=2")
	x.Recs = slices.Grow(x.Recs, 8)
	takes(t, b, x, batch(7, 2, 2, "a=3"))
	is(t, "Clean", b.Clean(8, 9), api.OK)
	if got := slots[:9]; got[0] != (api.Slot{Seq: 1, Base: 2, End: 3}) || slices.ContainsFunc(got[1:], func(x api.Slot) bool { return x != api.Slot{} }) {
		t.Error("the table was changed", got)
	}
	if !alike(x.Recs, batch(5, 1, 2, "a=1", "b=2").Recs) || x.Recs[:3][2] != (api.Rec{}) {
		t.Error("the batch was changed", x)
	}
	before := told(b)
	spoil([]api.Batch{x}, table)
	isState(t, "behind changed arguments", b, before)
	if before.table[0].Slots[1].Seq != 2 || before.under[0].Slots[0].Seq != 1 {
		t.Error(before)
	}
}

// model is what was done to a bin: the table and offset it was wiped with, all batches since, how many of them are safe, and up to where a Clean could take them.
type model struct {
	off   int
	table []api.Seen
	all   []api.Batch
	safe  int
	high  int
	now   int
}

func (m *model) end() int {
	if len(m.all) == 0 {
		return m.off
	}
	last := m.all[len(m.all)-1]
	return last.Base + last.Count
}

// upto is how many batches end at an offset or below it.
func (m *model) upto(off int) int {
	n := slices.IndexFunc(m.all, func(x api.Batch) bool { return x.Base >= off })
	if n < 0 {
		return len(m.all)
	}
	return n
}

// next is a batch that comes next.
func (m *model) next(t *testing.T, r *rand.Rand) api.Batch {
	prod, seq := r.Intn(4), 0
	for _, x := range after(t, m.table, m.all...) {
		if x.Prod == prod {
			seq = x.Slots[len(x.Slots)-1].Seq + 1
		}
	}
	var list []string
	for range 1 + r.Intn(3) {
		list = append(list, []string{"a=1", "b=2", "c=3", "=4", "a", "b"}[r.Intn(6)])
	}
	x := batch(m.end(), prod, seq, list...)
	x.Time = m.now
	return x
}

// step makes a call, and does to the model what is done if the power doesn't go.
func (m *model) step(t *testing.T, r *rand.Rand, b *bin.Bin, part int) api.Errno {
	m.now++
	switch n := r.Intn(10); {
	case n < 6:
		x := m.next(t, r)
		m.all = append(m.all, x)
		return b.Take(x)
	case n < 8:
		e := b.Sync()
		if e == api.OK {
			m.safe = len(m.all)
		}
		return e
	}
	high := m.off + r.Intn(m.end()-m.off+1)
	m.high = max(m.high, high)
	e := b.Clean(high, m.now)
	if e == api.OK && part > 0 {
		m.safe = len(m.all)
	}
	return e
}

// isFound: a bin has what the model says, of what wasn't safe a beginning.
func (m *model) isFound(t *testing.T, what string, b *bin.Bin, part int) {
	t.Helper()
	s := told(b)
	n := m.upto(s.end)
	m.all = m.all[:n]
	if m.end() != s.end || n < m.safe {
		t.Fatalf("%s: End() is %d, safe are %d of %v", what, s.end, m.safe, m.all)
	}
	floor := m.all[:m.upto(s.floor)]
	isList(t, what+": Table", s.table, after(t, m.table, m.all...))
	under := after(t, m.table, floor...)
	if s.floor == 0 {
		under = nil
	}
	isList(t, what+": Floor", s.under, under)
	from := m.upto(s.start)
	switch {
	case part > 0 && part%2 == 0:
		if s.start > max(m.off, m.high) || s.start > max(m.off, s.floor) {
			t.Errorf("%s: Start() is %d, the floor %d, cleaned was up to %d", what, s.start, s.floor, m.high)
		}
		isList(t, what+": All", s.all, bare(m.all[from:]))
	case part > 0:
		isList(t, what+": Fold", weed.Fold(s.all, s.end), weed.Fold(m.all, s.end))
		for i, x := range s.all {
			for _, rec := range x.Recs {
				if !slices.Contains(m.all[i].Recs, rec) {
					t.Errorf("%s: %v of %v", what, rec, m.all[i])
				}
			}
		}
		if len(s.all) != n || s.start != m.off {
			t.Errorf("%s: %v of %v", what, s.all, m.all)
		}
	default:
		isList(t, what+": All", s.all, bare(m.all))
	}
}

// Wherever the power goes, in whichever call, what is found again is what was safe, and of the rest a beginning; and of producers all is remembered.
func TestPower(t *testing.T) {
	for seed := range int64(250) {
		r := rand.New(rand.NewSource(seed))
		part := r.Intn(4)
		c := api.Config{Seg: []int{1, 60, 200, 500, 1 << 20}[r.Intn(5)], Keep: r.Intn(600), Horizon: r.Intn(20)}
		d := tape.New(1 << 18)
		m := &model{}
		b := opened(t, d, part, c)
		if r.Intn(3) == 0 {
			m.off, m.table = 20, []api.Seen{seen(0, [3]int{1, 3, 5}, [3]int{2, 5, 6}), seen(3, [3]int{0, 6, 9})}
			m.high = 20
			is(t, "Wipe", b.Wipe(m.off, m.table), api.OK)
		}
		for life := range 5 {
			what := fmt.Sprint("seed ", seed, ", life ", life)
			d.Arm(1 + r.Intn(40))
			for i := 0; i < 60 && !d.Down(); i++ {
				e := m.step(t, r, b, part)
				if e != api.OK && e != api.ErrDown || (e == api.ErrDown) != d.Down() {
					t.Fatalf("%s: %d, down %t", what, e, d.Down())
				}
				if e == api.OK {
					m.isFound(t, what, b, part)
				}
			}
			d.Off()
			d.On([]int{r.Intn(2000), r.Intn(100) - 1})
			// The power may go while it is opened, too.
			d.Arm(r.Intn(3))
			b, _ = bin.Open(d, part, c)
			if d.Down() {
				d.On([]int{r.Intn(2000)})
				b = opened(t, d, part, c)
			}
			m.isFound(t, what, b, part)
			m.safe = len(m.all)
		}
	}
}

// A Wipe in which the power went may leave anything, but it can be wiped again.
func TestPowerInAWipe(t *testing.T) {
	list := row(1, 2, 1, 1)
	for n := 1; ; n++ {
		d := laid(t, with(singles(2, list...), "p2.seq", seq(1, seen(1, [3]int{0, 0, 1})), "p2.tmp", "x"))
		b := opened(t, d, 2, one)
		d.Arm(n)
		e := b.Wipe(9, many(3))
		if e == api.OK {
			break
		}
		is(t, "Wipe", e, api.ErrDown)
		d.On([]int{n})
		b = opened(t, d, 2, one)
		is(t, "Wipe again", b.Wipe(30, many(4)), api.OK)
		want := state{30, 30, nil, many(4), 30, many(4)}
		isState(t, "Wipe again", b, want)
		isState(t, "Wipe again, opened again", opened(t, d, 2, one), want)
		isFiles(t, "Wipe again", d, files{name(2, 30): "", "p2.seq": seq(30, many(4)...)})
	}
}
