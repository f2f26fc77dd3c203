package ledger_test

import (
	"fmt"
	"math"
	"reflect"
	"slices"
	"strings"
	"testing"

	"heliograph/api"
	"heliograph/ledger"
)

const far = 1 << 40 // MaxOffset, MaxSeq

// outside are numbers beyond all that a table's numbers may be.
var outside = []int{math.MinInt, math.MinInt + 1, math.MinInt32, -far, -2, -1, far + 1, far + 2, math.MaxInt - 1, math.MaxInt}

// batch is a batch without records.
func batch(prod, seq, base, count int) api.Batch {
	return api.Batch{Base: base, Count: count, Prod: prod, Seq: seq}
}

// seen is a producer and slots of it, each told by three numbers.
func seen(prod int, slots ...[3]int) api.Seen {
	x := api.Seen{Prod: prod}
	for _, n := range slots {
		x.Slots = append(x.Slots, api.Slot{Seq: n[0], Base: n[1], End: n[2]})
	}
	return x
}

// many is a table of so many producers.
func many(n int) []api.Seen {
	var table []api.Seen
	for i := range n {
		table = append(table, seen(2*i, [3]int{0, i, i + 1}))
	}
	return table
}

// five are slots that stand one behind the other, the last of them with the greatest of all numbers.
func five() [][3]int {
	return [][3]int{{far - 4, 0, 1}, {far - 3, 1, 2}, {far - 2, 2, far - 2}, {far - 1, far - 2, far - 1}, {far, far - 1, far}}
}

// greatest is a table that has the most of all.
func greatest() []api.Seen {
	var table []api.Seen
	for i := range 64 {
		table = append(table, seen(far-63+i, five()...))
	}
	return table
}

// deep is a table with memory of its own.
func deep(table []api.Seen) []api.Seen {
	table = slices.Clone(table)
	for i := range table {
		table[i].Slots = slices.Clone(table[i].Slots)
	}
	return table
}

// alike: whether two tables are equal, told without the package.
func alike(a, b []api.Seen) bool {
	return len(a) == 0 && len(b) == 0 || reflect.DeepEqual(a, b)
}

// written writes a table's bytes as the chapter's words have them.
func written(table []api.Seen) string {
	var s strings.Builder
	s.WriteString("l")
	for _, x := range table {
		fmt.Fprintf(&s, "li%de", x.Prod)
		for _, y := range x.Slots {
			fmt.Fprintf(&s, "li%dei%dei%dee", y.Seq, y.Base, y.End)
		}
		s.WriteString("e")
	}
	return s.String() + "e"
}

// tables are such as stand at an edge of what a table may be.
func tables() map[string][]api.Seen {
	return map[string][]api.Seen{
		"none":             nil,
		"empty":            {},
		"least":            {seen(0, [3]int{0, 0, 1})},
		"greatest":         greatest(),
		"64 producers":     many(64),
		"five slots":       {seen(7, five()...)},
		"four slots":       {seen(7, five()[:4]...)},
		"last slot":        {seen(7, five()[4])},
		"not from 0 on":    {seen(1, [3]int{3, 5, 6}, [3]int{4, 6, 7})},
		"greatest Prod":    {seen(0, [3]int{0, 0, 1}), seen(far, [3]int{0, 0, 1})},
		"wide slot":        {seen(1, [3]int{0, 0, far})},
		"gaps":             {seen(1, [3]int{0, 5, 8}, [3]int{1, 9, 20}, [3]int{2, far - 1, far})},
		"side by side":     {seen(1, [3]int{0, 5, 8}, [3]int{1, 8, 9})},
		"the same offsets": {seen(1, [3]int{0, 5, 8}), seen(2, [3]int{0, 5, 8})},
		"some of a few":    {seen(3, [3]int{9, 1, 2}), seen(4, [3]int{0, 40, 41}, [3]int{1, 70, 78}), seen(1<<33, [3]int{1 << 34, 1 << 35, 1<<35 + 1})},
	}
}

// noTables are such as are just none, and far from one.
func noTables() map[string][]api.Seen {
	bad := map[string][]api.Seen{
		"65 producers":       many(65),
		"very many":          many(100000),
		"no producers":       make([]api.Seen, 3),
		"no slots":           {seen(1)},
		"no slots, empty":    {{Prod: 1, Slots: []api.Slot{}}},
		"no slots, later":    {seen(0, [3]int{0, 0, 1}), seen(1)},
		"no slots, earlier":  {seen(0), seen(1, [3]int{0, 0, 1})},
		"six slots":          {seen(1, [3]int{0, 0, 1}, [3]int{1, 1, 2}, [3]int{2, 2, 3}, [3]int{3, 3, 4}, [3]int{4, 4, 5}, [3]int{5, 5, 6})},
		"very many slots":    {{Prod: 1, Slots: make([]api.Slot, 100000)}},
		"zero slot":          {seen(1, [3]int{0, 0, 0})},
		"empty slot":         {seen(1, [3]int{0, 7, 7})},
		"falling slot":       {seen(1, [3]int{0, 7, 6})},
		"empty second slot":  {seen(1, [3]int{0, 6, 7}, [3]int{1, 7, 7})},
		"the same Prod":      {seen(1, [3]int{0, 0, 1}), seen(1, [3]int{1, 1, 2})},
		"falling Prod":       {seen(2, [3]int{0, 0, 1}), seen(1, [3]int{0, 0, 1})},
		"falling Prod, last": {seen(1, [3]int{0, 0, 1}), seen(3, [3]int{0, 0, 1}), seen(2, [3]int{0, 0, 1})},
		"falling Prod, to 0": {seen(far, [3]int{0, 0, 1}), seen(0, [3]int{0, 0, 1})},
		"the same Seq":       {seen(1, [3]int{0, 0, 1}, [3]int{0, 1, 2})},
		"falling Seq":        {seen(1, [3]int{1, 0, 1}, [3]int{0, 1, 2})},
		"a Seq is missing":   {seen(1, [3]int{0, 0, 1}, [3]int{2, 1, 2})},
		"missing later":      {seen(1, [3]int{0, 0, 1}, [3]int{1, 1, 2}, [3]int{3, 2, 3})},
		"Base below End":     {seen(1, [3]int{0, 0, 3}, [3]int{1, 2, 4})},
		"Base below, later":  {seen(1, [3]int{0, 0, 1}, [3]int{1, 5, 7}, [3]int{2, 6, 9})},
		"Base falls":         {seen(1, [3]int{0, 5, 7}, [3]int{1, 0, 1})},
		"behind MaxSeq":      {seen(1, [3]int{far, 0, 1}, [3]int{far + 1, 1, 2})},
		"at MaxOffset":       {seen(1, [3]int{0, far, far})},
		"End above":          {seen(1, [3]int{0, far - 1, far + 1})},
		"all above":          {seen(1, [3]int{0, far, far + 1})},
		"Seq wraps":          {seen(1, [3]int{math.MaxInt, 0, 1}, [3]int{math.MinInt, 1, 2})},
		"Prod wraps":         {seen(math.MaxInt, [3]int{0, 0, 1}), seen(math.MinInt, [3]int{0, 0, 1})},
		"End behind a wrap":  {seen(1, [3]int{0, math.MaxInt, math.MinInt})},
	}
	for _, n := range outside {
		bad[fmt.Sprint("Prod ", n)] = []api.Seen{seen(n, [3]int{0, 0, 1})}
		bad[fmt.Sprint("last Prod ", n)] = []api.Seen{seen(0, [3]int{0, 0, 1}), seen(n, [3]int{0, 0, 1})}
		for at, name := range []string{"Seq", "Base", "End"} {
			first, last := [3]int{0, 0, 1}, [3]int{1, 1, 2}
			first[at], last[at] = n, n
			bad[fmt.Sprint(name, " ", n)] = []api.Seen{seen(1, first)}
			bad[fmt.Sprint("first ", name, " ", n)] = []api.Seen{seen(1, first, [3]int{1, 1, 2})}
			bad[fmt.Sprint("last ", name, " ", n)] = []api.Seen{seen(1, [3]int{0, 0, 1}, last)}
		}
	}
	return bad
}

// from is a ledger that remembers what a table says.
func from(t *testing.T, table []api.Seen) *ledger.Ledger {
	t.Helper()
	l, e := ledger.From(table)
	if l == nil || e != api.OK {
		t.Fatalf("From(%v): %v, %v", table, l, e)
	}
	return l
}

// example is the ledger of the chapter's example.
func example(t *testing.T) *ledger.Ledger {
	t.Helper()
	l := ledger.New()
	for i := range 7 {
		isAdded(t, l, batch(1, i, 10*i, 2), api.OK)
	}
	return l
}

// isAdded: what Add answers; beside an error nothing has changed.
func isAdded(t *testing.T, l *ledger.Ledger, b api.Batch, want api.Errno) {
	t.Helper()
	was := l.Table()
	if e := l.Add(b); e != want {
		t.Errorf("Add(%+v): %v, not %v", b, e, want)
	}
	if is := l.Table(); (want == api.OK) == alike(was, is) {
		t.Errorf("Add(%+v): behind %v there is %v", b, was, is)
	}
}

// isCheck: what Check answers; it changes nothing.
func isCheck(t *testing.T, l *ledger.Ledger, prod, seq int, x api.Slot, want api.Errno) {
	t.Helper()
	was := l.Table()
	if y, e := l.Check(prod, seq); y != x || e != want {
		t.Errorf("Check(%d, %d): %v, %v, not %v, %v", prod, seq, y, e, x, want)
	}
	if !alike(was, l.Table()) {
		t.Errorf("Check(%d, %d) changed it", prod, seq)
	}
}

// isTable: what is remembered.
func isTable(t *testing.T, l *ledger.Ledger, want ...api.Seen) {
	t.Helper()
	if table := l.Table(); !alike(table, want) {
		t.Errorf("%v is remembered, not %v", table, want)
	}
}

func TestExample(t *testing.T) {
	l := example(t)
	isCheck(t, l, 1, 6, api.Slot{Seq: 6, Base: 60, End: 62}, api.ErrTwice)
	isCheck(t, l, 1, 2, api.Slot{Seq: 2, Base: 20, End: 22}, api.ErrTwice)
	isCheck(t, l, 1, 1, api.Slot{}, api.ErrOld)
	isCheck(t, l, 1, 7, api.Slot{}, api.OK)
	isCheck(t, l, 1, 8, api.Slot{}, api.ErrOrder)
	isCheck(t, l, 2, 0, api.Slot{}, api.OK)
	isCheck(t, l, 2, 1, api.Slot{}, api.ErrOrder)
}

func TestNew(t *testing.T) {
	l := ledger.New()
	isTable(t, l)
	isCheck(t, l, 0, 0, api.Slot{}, api.OK)
	isCheck(t, l, far, 0, api.Slot{}, api.OK)
	isCheck(t, l, 0, 1, api.Slot{}, api.ErrOrder)
	isCheck(t, l, 0, far, api.Slot{}, api.ErrOrder)
	isTable(t, l)
}

func TestLedgersAreApart(t *testing.T) {
	a, b := ledger.New(), ledger.New()
	isAdded(t, a, batch(1, 0, 0, 1), api.OK)
	isTable(t, b)
	c, d := from(t, a.Table()), from(t, a.Table())
	isAdded(t, c, batch(1, 1, 5, 1), api.OK)
	isTable(t, a, seen(1, [3]int{0, 0, 1}))
	isTable(t, d, seen(1, [3]int{0, 0, 1}))
}

func TestNil(t *testing.T) {
	var l *ledger.Ledger
	for _, n := range append([]int{0, 1, far}, outside...) {
		if x, e := l.Check(n, 0); x != (api.Slot{}) || e != api.ErrNil {
			t.Error(n, x, e)
		}
		if x, e := l.Check(0, n); x != (api.Slot{}) || e != api.ErrNil {
			t.Error(n, x, e)
		}
	}
	for _, b := range []api.Batch{{}, batch(0, 0, 0, 1), batch(-1, 0, 0, 1), batch(0, 1, 0, 1)} {
		if e := l.Add(b); e != api.ErrNil {
			t.Error(b, e)
		}
	}
	if table := l.Table(); len(table) != 0 {
		t.Error(table)
	}
}

func TestFrom(t *testing.T) {
	for name, table := range tables() {
		was := deep(table)
		l, e := ledger.From(table)
		if l == nil || e != api.OK {
			t.Error(name, l, e)
			continue
		}
		isTable(t, l, was...)
		if !alike(table, was) {
			t.Error("changed:", name)
		}
		for _, x := range was {
			for _, y := range x.Slots {
				isCheck(t, l, x.Prod, y.Seq, y, api.ErrTwice)
			}
		}
	}
}

func TestFromNoTable(t *testing.T) {
	for name, table := range noTables() {
		was := deep(table)
		if l, e := ledger.From(table); l != nil || e != api.ErrArg {
			t.Error(name, l, e)
		}
		if !alike(table, was) {
			t.Error("changed:", name)
		}
	}
}

// A ledger from a table goes on as the one whose table it is.
func TestFromGoesOn(t *testing.T) {
	for n := range 12 {
		a := ledger.New()
		for i := range n {
			isAdded(t, a, batch(i%2, i/2, i, 1), api.OK)
		}
		b := from(t, a.Table())
		for i := n; i < 20; i++ {
			isAdded(t, a, batch(i%2, i/2, i, 1), api.OK)
			isAdded(t, b, batch(i%2, i/2, i, 1), api.OK)
			isTable(t, b, a.Table()...)
		}
	}
}

func TestCheckOfNoNumber(t *testing.T) {
	for _, l := range []*ledger.Ledger{ledger.New(), example(t), from(t, greatest())} {
		for _, n := range outside {
			for _, m := range []int{0, 1, 6, 7, far, n} {
				isCheck(t, l, n, m, api.Slot{}, api.ErrArg)
				isCheck(t, l, m, n, api.Slot{}, api.ErrArg)
			}
		}
	}
}

func TestCheckAtTheEnds(t *testing.T) {
	l := from(t, []api.Seen{seen(0, [3]int{0, 3, 4}), seen(5, [3]int{far - 2, 7, 9}, [3]int{far - 1, 9, 12}), seen(far, five()...)})
	isCheck(t, l, 0, 0, api.Slot{Seq: 0, Base: 3, End: 4}, api.ErrTwice)
	isCheck(t, l, 0, 1, api.Slot{}, api.OK)
	isCheck(t, l, 0, 2, api.Slot{}, api.ErrOrder)
	isCheck(t, l, 0, far, api.Slot{}, api.ErrOrder)
	isCheck(t, l, 5, 0, api.Slot{}, api.ErrOld)
	isCheck(t, l, 5, far-3, api.Slot{}, api.ErrOld)
	isCheck(t, l, 5, far-2, api.Slot{Seq: far - 2, Base: 7, End: 9}, api.ErrTwice)
	isCheck(t, l, 5, far-1, api.Slot{Seq: far - 1, Base: 9, End: 12}, api.ErrTwice)
	isCheck(t, l, 5, far, api.Slot{}, api.OK)
	isCheck(t, l, far, 0, api.Slot{}, api.ErrOld)
	isCheck(t, l, far, far-5, api.Slot{}, api.ErrOld)
	isCheck(t, l, far, far-4, api.Slot{Seq: far - 4, Base: 0, End: 1}, api.ErrTwice)
	isCheck(t, l, far, far, api.Slot{Seq: far, Base: far - 1, End: far}, api.ErrTwice)
	isCheck(t, l, far, far+1, api.Slot{}, api.ErrArg)
	for _, prod := range []int{1, 4, 6, far - 1} {
		isCheck(t, l, prod, 0, api.Slot{}, api.OK)
		isCheck(t, l, prod, 1, api.Slot{}, api.ErrOrder)
		isCheck(t, l, prod, far, api.Slot{}, api.ErrOrder)
	}
}

func TestAdd(t *testing.T) {
	l := ledger.New()
	isAdded(t, l, batch(7, 0, 3, 8), api.OK)
	isTable(t, l, seen(7, [3]int{0, 3, 11}))
	isAdded(t, l, batch(7, 1, 11, 1), api.OK)
	isAdded(t, l, batch(0, 0, 12, 2), api.OK)
	isAdded(t, l, batch(far, 0, 14, 3), api.OK)
	isAdded(t, l, batch(8, 0, 17, 1), api.OK)
	isTable(t, l, seen(0, [3]int{0, 12, 14}), seen(7, [3]int{0, 3, 11}, [3]int{1, 11, 12}), seen(8, [3]int{0, 17, 18}), seen(far, [3]int{0, 14, 17}))
}

// What a batch's records are, and its time, play no part.
func TestAddCountsOffsets(t *testing.T) {
	l := ledger.New()
	isAdded(t, l, api.Batch{Base: 4, Count: 8, Prod: 2, Seq: 0, Time: far, Recs: []api.Rec{{Off: 5, Key: "k", Val: "v"}}}, api.OK)
	isAdded(t, l, api.Batch{Base: 20, Count: 2, Prod: 2, Seq: 1, Time: 0, Recs: []api.Rec{{Off: 20}, {Off: 21, Key: "k", Gone: true}}}, api.OK)
	isTable(t, l, seen(2, [3]int{0, 4, 12}, [3]int{1, 20, 22}))
}

func TestAddAtTheEnds(t *testing.T) {
	l := from(t, []api.Seen{seen(far, [3]int{far - 1, 0, far - 8})})
	isAdded(t, l, batch(far, far, far-9, 8), api.ErrOrder)
	isAdded(t, l, batch(far, far, far-8, 8), api.OK)
	isTable(t, l, seen(far, [3]int{far - 1, 0, far - 8}, [3]int{far, far - 8, far}))
	isAdded(t, l, batch(far, far, far-8, 8), api.ErrTwice)
	isAdded(t, l, batch(far, far+1, far-8, 8), api.ErrArg)
	isAdded(t, l, batch(far, far-2, 0, 1), api.ErrOld)
}

func TestAddOfNoBatch(t *testing.T) {
	for _, l := range []*ledger.Ledger{ledger.New(), example(t)} {
		isAdded(t, l, api.Batch{}, api.ErrArg)
		isAdded(t, l, batch(1, 7, 100, 0), api.ErrArg)
		isAdded(t, l, batch(1, 7, 100, 9), api.ErrArg)
		isAdded(t, l, batch(2, 0, far, 1), api.ErrArg)
		isAdded(t, l, batch(2, 0, far-1, 2), api.ErrArg)
		isAdded(t, l, batch(1, 8, 100, 9), api.ErrArg) // too soon as well
		isAdded(t, l, batch(1, 6, 60, 9), api.ErrArg)  // come as well
		isAdded(t, l, batch(1, 0, 0, 9), api.ErrArg)   // long ago as well
		isAdded(t, l, api.Batch{Base: 100, Count: 1, Prod: 1, Seq: 7, Recs: []api.Rec{{Off: 101}}}, api.ErrArg)
		isAdded(t, l, api.Batch{Base: 100, Count: 1, Prod: 1, Seq: 7, Recs: []api.Rec{{Off: 100, Val: "v", Gone: true}}}, api.ErrArg)
		for _, n := range outside {
			isAdded(t, l, batch(n, 0, 100, 1), api.ErrArg)
			isAdded(t, l, batch(1, n, 100, 1), api.ErrArg)
			isAdded(t, l, batch(2, 0, n, 1), api.ErrArg)
			isAdded(t, l, batch(2, 0, 100, n), api.ErrArg)
			isAdded(t, l, api.Batch{Base: 100, Count: 1, Prod: 1, Seq: 7, Time: n}, api.ErrArg)
		}
	}
}

func TestAddOfWhatComesNotNext(t *testing.T) {
	l := example(t)
	isAdded(t, l, batch(1, 6, 60, 2), api.ErrTwice)
	isAdded(t, l, batch(1, 6, 70, 1), api.ErrTwice)
	isAdded(t, l, batch(1, 2, 20, 2), api.ErrTwice)
	isAdded(t, l, batch(1, 2, 100, 2), api.ErrTwice)
	isAdded(t, l, batch(1, 1, 10, 2), api.ErrOld)
	isAdded(t, l, batch(1, 0, 100, 2), api.ErrOld)
	isAdded(t, l, batch(1, 8, 100, 2), api.ErrOrder)
	isAdded(t, l, batch(1, far, 100, 2), api.ErrOrder)
	isAdded(t, l, batch(2, 1, 100, 2), api.ErrOrder)
	isAdded(t, l, batch(0, 7, 100, 2), api.ErrOrder)
}

// A batch isn't held against the ends of other batches than its producer's last one.
func TestAddBelowTheEnd(t *testing.T) {
	l := example(t) // its last one ends at 62
	for _, base := range []int{0, 21, 22, 54, 60, 61} {
		isAdded(t, l, batch(1, 7, base, 1), api.ErrOrder)
		isAdded(t, l, batch(1, 7, base, 8), api.ErrOrder)
	}
	isAdded(t, l, batch(2, 0, 0, 1), api.OK)
	isAdded(t, l, batch(3, 0, 61, 1), api.OK)
	isAdded(t, l, batch(0, 0, 1000, 1), api.OK)
	isAdded(t, l, batch(1, 7, 62, 1), api.OK)
	isAdded(t, l, batch(2, 1, 0, 1), api.ErrOrder)
	isAdded(t, l, batch(2, 1, 1, 1), api.OK)
}

func TestFiveAreRemembered(t *testing.T) {
	l := ledger.New()
	var slots [][3]int
	for i := range 40 {
		slots = append(slots, [3]int{i, 3 * i, 3*i + 2})
		isAdded(t, l, batch(4, i, 3*i, 2), api.OK)
		isTable(t, l, seen(4, slots[max(0, i-4):]...))
		for seq := range i + 3 {
			switch {
			case seq <= i-5:
				isCheck(t, l, 4, seq, api.Slot{}, api.ErrOld)
			case seq <= i:
				isCheck(t, l, 4, seq, api.Slot{Seq: seq, Base: 3 * seq, End: 3*seq + 2}, api.ErrTwice)
			case seq == i+1:
				isCheck(t, l, 4, seq, api.Slot{}, api.OK)
			default:
				isCheck(t, l, 4, seq, api.Slot{}, api.ErrOrder)
			}
		}
	}
}

// Others' batches, however many, take no place from a producer's.
func TestOthersPlayNoPart(t *testing.T) {
	l := ledger.New()
	isAdded(t, l, batch(30, 0, 5, 1), api.OK)
	for i := range 50 {
		for _, prod := range []int{0, 29, 31, far} {
			isAdded(t, l, batch(prod, i, i, 1), api.OK)
		}
		isCheck(t, l, 30, 0, api.Slot{Seq: 0, Base: 5, End: 6}, api.ErrTwice)
		isCheck(t, l, 30, 1, api.Slot{}, api.OK)
	}
}

func TestProducersThatAreTooMany(t *testing.T) {
	for _, table := range [][]api.Seen{many(64), greatest()} {
		l := from(t, table)
		for _, prod := range []int{1, 63, 127, 129, far - 64} {
			isCheck(t, l, prod, 0, api.Slot{}, api.OK)
			isAdded(t, l, batch(prod, 0, 100, 1), api.ErrArg)
			isAdded(t, l, batch(prod, 1, 100, 1), api.ErrOrder)
			isTable(t, l, table...)
		}
	}
	l := from(t, many(64))
	isAdded(t, l, batch(126, 1, 1000, 1), api.OK)
	isAdded(t, l, batch(0, 1, 1000, 1), api.OK)
	isAdded(t, l, batch(0, 1, 1000, 1), api.ErrTwice)
	isAdded(t, l, batch(0, 2, 1000, 1), api.ErrOrder)
}

func TestProducersUpToTheLimit(t *testing.T) {
	for _, step := range []int{1, 5, 63} {
		l := ledger.New()
		var table []api.Seen
		for i := range 64 {
			prod := i * step % 64 // each once, in another order
			isAdded(t, l, batch(prod, 0, i, 1), api.OK)
			table = append(table, seen(prod, [3]int{0, i, i + 1}))
		}
		slices.SortFunc(table, func(a, b api.Seen) int { return a.Prod - b.Prod })
		isTable(t, l, table...)
		isAdded(t, l, batch(64, 0, 64, 1), api.ErrArg)
	}
}

func TestTableIsNew(t *testing.T) {
	l := ledger.New()
	for i := range 8 {
		isAdded(t, l, batch(1, i, i, 1), api.OK)
		isAdded(t, l, batch(2, i, i, 1), api.OK)
	}
	want := deep(l.Table())
	a, b := l.Table(), l.Table()
	spoil(a)
	if !alike(b, want) {
		t.Error("one answer is in another one:", b)
	}
	isTable(t, l, want...)
	spoil(b)
	isTable(t, l, want...)
	// What comes later isn't seen in what was answered.
	c := l.Table()
	isAdded(t, l, batch(1, 8, 8, 1), api.OK)
	isAdded(t, l, batch(0, 0, 8, 1), api.OK)
	if !alike(c, want) {
		t.Error(c)
	}
}

// spoil writes over all that is in a table, and behind it as far as its memory goes, list by list: none may be seen in another one.
func spoil(table []api.Seen) {
	for i := range table {
		slots := table[i].Slots
		was := deep(table[i+1:])
		for j := range slots[:cap(slots)] {
			slots[:cap(slots)][j] = api.Slot{Seq: -9, Base: -9, End: -9}
		}
		if !alike(was, table[i+1:]) {
			panic("two lists of an answer share memory")
		}
	}
	for i := range table[:cap(table)] {
		table[:cap(table)][i] = api.Seen{Prod: -9}
	}
}

// A table that is handed in isn't kept, its spare room neither.
func TestFromIsNew(t *testing.T) {
	slots := append(make([]api.Slot, 0, 9), api.Slot{Seq: 0, Base: 0, End: 1})
	table := append(make([]api.Seen, 0, 9), api.Seen{Prod: 3, Slots: slots})
	l := from(t, table)
	isAdded(t, l, batch(3, 1, 1, 1), api.OK)
	isAdded(t, l, batch(4, 0, 2, 1), api.OK)
	if slots[:9][1] != (api.Slot{}) || table[:9][1].Slots != nil {
		t.Error("spare room is written")
	}
	isTable(t, l, seen(3, [3]int{0, 0, 1}, [3]int{1, 1, 2}), seen(4, [3]int{0, 2, 3}))
	spoil(table)
	isTable(t, l, seen(3, [3]int{0, 0, 1}, [3]int{1, 1, 2}), seen(4, [3]int{0, 2, 3}))
}

func TestAddLeavesTheBatch(t *testing.T) {
	recs := append(make([]api.Rec, 0, 4), api.Rec{Off: 3, Key: "k"})
	b := api.Batch{Base: 3, Count: 1, Prod: 1, Recs: recs}
	isAdded(t, ledger.New(), b, api.OK)
	if recs[0] != (api.Rec{Off: 3, Key: "k"}) || recs[:4][1] != (api.Rec{}) {
		t.Error(recs[:4])
	}
}

func TestEncode(t *testing.T) {
	for name, table := range tables() {
		was := deep(table)
		if s, e := ledger.Encode(table); s != written(was) || e != api.OK {
			t.Error(name, s, e)
		}
		if !alike(table, was) {
			t.Error("changed:", name)
		}
	}
	for name, table := range noTables() {
		if s, e := ledger.Encode(table); s != "" || e != api.ErrArg {
			t.Error(name, s, e)
		}
	}
	if s, e := ledger.Encode(example(t).Table()); s != "lli1eli2ei20ei22eeli3ei30ei32eeli4ei40ei42eeli5ei50ei52eeli6ei60ei62eeee" || e != api.OK {
		t.Error(s, e)
	}
}

func TestDecode(t *testing.T) {
	for name, table := range tables() {
		back, e := ledger.Decode(written(table))
		if e != api.OK || !alike(back, table) {
			t.Error(name, back, e)
		}
		spoil(back) // no two lists share memory
	}
	for name, table := range noTables() {
		wrong(t, name, written(table))
	}
}

// wrong: bytes are no table's.
func wrong(t *testing.T, name, s string) {
	t.Helper()
	if table, e := ledger.Decode(s); e != api.ErrForm || len(table) != 0 {
		t.Errorf("%s: %.80q is %v, %v", name, s, table, e)
	}
}

func TestDecodeCut(t *testing.T) {
	for name, table := range tables() {
		s := written(table)
		for n := range len(s) {
			wrong(t, name+", cut", s[:n])
			if n > 0 {
				wrong(t, name+", begun late", s[n:])
			}
		}
		for _, behind := range []string{"e", "l", "le", "i0e", "0:", "\x00", " ", "\n", s} {
			wrong(t, name+", more behind", s+behind)
			wrong(t, name+", more ahead", behind+s)
		}
	}
}

// A byte that is another one, is missing, or is there twice: it is no table, or another one that would be written so.
func TestDecodeSpoilt(t *testing.T) {
	same := func(s string) {
		table, e := ledger.Decode(s)
		switch {
		case e == api.OK && written(table) != s:
			t.Errorf("%q is read as %v", s, table)
		case e != api.OK && (e != api.ErrForm || len(table) != 0):
			t.Errorf("%q: %v %v", s, table, e)
		}
	}
	for _, name := range []string{"none", "least", "five slots", "gaps", "some of a few"} {
		s := written(tables()[name])
		for i := range len(s) {
			for c := range 256 {
				same(s[:i] + string([]byte{byte(c)}) + s[i+1:])
				same(s[:i] + string([]byte{byte(c)}) + s[i:])
			}
			same(s[:i] + s[i+1:])
		}
	}
}

func TestDecodeForms(t *testing.T) {
	for _, s := range []string{
		"", "e", "l", "lle", "llee", "llll", "i0e", "0:", "hello", "\x00", strings.Repeat("l", 100000), strings.Repeat("le", 100000),
		"lli0eee",               // no slot
		"li0eli0ei3ei4eee",      // no list of a producer
		"lli0ei0ei3ei4eee",      // no list of a slot
		"lli0elli0ei3ei4eeeee",  // a list of slots
		"lli0eli0ei3eeee",       // a number is missing
		"lli0eli0ei3ei4ei5eeee", // one too many
		"lli0eli0e1:3i4eeee",    // a text for a number
		"ll1:0li0ei3ei4eeee",    //
		"lli0eli0ei3ei4eei0eee", // a number behind the slots
		"lli0eli0ei3ei4eeei0ee", // a number behind the producers
		"lli00eli0ei3ei4eeee",   // a 0 ahead
		"lli-0eli0ei3ei4eeee",   //
		"lli+1eli0ei3ei4eeee",   //
		"lli0eli0ei3ei99999999999999999999eeee",
		"l" + strings.Repeat("lli0ei0ei1eee", 1<<16) + "e",
		"lli0e" + strings.Repeat("li0ei0ei1ee", 1<<16) + "ee",
	} {
		wrong(t, "form", s)
	}
}

// model keeps all batches that were added, and tells of them what a ledger should.
type model struct {
	added []api.Batch
}

// of: the batches of a producer, as they came.
func (m *model) of(prod int) []api.Batch {
	return slices.DeleteFunc(slices.Clone(m.added), func(b api.Batch) bool { return b.Prod != prod })
}

func (m *model) prods() []int {
	var list []int
	for _, b := range m.added {
		list = append(list, b.Prod)
	}
	slices.Sort(list)
	return slices.Compact(list)
}

func (m *model) check(prod, seq int) (api.Slot, api.Errno) {
	if min(prod, seq) < 0 || max(prod, seq) > far {
		return api.Slot{}, api.ErrArg
	}
	// Each of a producer's batches has the number of those ahead of it.
	list := m.of(prod)
	switch {
	case seq > len(list):
		return api.Slot{}, api.ErrOrder
	case seq == len(list):
		return api.Slot{}, api.OK
	case seq < len(list)-5:
		return api.Slot{}, api.ErrOld
	}
	return api.Slot{Seq: seq, Base: list[seq].Base, End: list[seq].Base + list[seq].Count}, api.ErrTwice
}

func (m *model) add(b api.Batch) api.Errno {
	if b.Count < 1 || b.Count > 8 || min(b.Base, b.Prod, b.Seq) < 0 {
		return api.ErrArg
	}
	if _, e := m.check(b.Prod, b.Seq); e != api.OK {
		return e
	}
	list := m.of(b.Prod)
	if n := len(list); n > 0 && b.Base < list[n-1].Base+list[n-1].Count {
		return api.ErrOrder
	}
	if len(list) == 0 && len(m.prods()) == 64 {
		return api.ErrArg
	}
	m.added = append(m.added, b)
	return api.OK
}

func (m *model) table() []api.Seen {
	var table []api.Seen
	for _, prod := range m.prods() {
		x := api.Seen{Prod: prod}
		for seq, b := range m.of(prod) {
			x.Slots = append(x.Slots, api.Slot{Seq: seq, Base: b.Base, End: b.Base + b.Count})
		}
		x.Slots = x.Slots[max(0, len(x.Slots)-5):]
		table = append(table, x)
	}
	return table
}

// dice answer numbers that look like none's, the same ones for the same seed.
type dice uint64

func (x *dice) below(n int) int {
	*x = *x*6364136223846793005 + 1442695040888963407
	return int(uint64(*x) >> 33 % uint64(n))
}

// thrown is a batch: most often what comes next of a producer, at the log's end, but not always.
func thrown(x *dice, m *model, prods int) api.Batch {
	prod := x.below(prods)
	b := batch(prod, len(m.of(prod)), x.below(200), 1+x.below(8))
	if n := len(m.added); n > 0 && x.below(3) > 0 {
		b.Base = m.added[n-1].Base + m.added[n-1].Count
	}
	switch x.below(24) {
	case 0, 1, 2, 3, 4:
		b.Seq -= x.below(9)
	case 5, 6:
		b.Seq += 1 + x.below(3)
	case 7:
		b.Count = 9 * x.below(2)
	case 8:
		b.Base = -b.Base
	case 9:
		b.Prod = -b.Prod
	}
	return b
}

func TestAnySteps(t *testing.T) {
	met := map[api.Errno]int{}
	for seed := range 24 {
		x := dice(seed)
		prods := []int{1, 2, 5, 30, 64, 80}[seed%6]
		l, m := ledger.New(), &model{}
		for range 250 {
			b := thrown(&x, m, prods)
			y, e := l.Check(b.Prod, b.Seq)
			if z, want := m.check(b.Prod, b.Seq); y != z || e != want {
				t.Fatal(seed, b, y, e, z, want)
			}
			got, want := l.Add(b), m.add(b)
			if got != want {
				t.Fatal(seed, b, got, want)
			}
			met[got]++
			if x.below(20) == 0 {
				s, _ := ledger.Encode(l.Table())
				table, _ := ledger.Decode(s)
				l = from(t, table)
			}
			if !alike(l.Table(), m.table()) {
				t.Fatal(seed, b, l.Table(), m.table())
			}
		}
	}
	for _, e := range []api.Errno{api.OK, api.ErrArg, api.ErrTwice, api.ErrOrder, api.ErrOld} {
		if met[e] < 20 {
			t.Error("hardly met:", e, met)
		}
	}
}

// A ledger that is given very many batches needs no more than its table.
func TestLongUse(t *testing.T) {
	l := ledger.New()
	for i := range 200000 {
		if e := l.Add(batch(i%3, i/3, i, 1)); e != api.OK {
			t.Fatal(i, e)
		}
	}
	for prod, x := range l.Table() {
		if last := x.Slots[len(x.Slots)-1]; x.Prod != prod || len(x.Slots) != 5 || last.Base != last.Seq*3+prod {
			t.Error(x)
		}
	}
}
