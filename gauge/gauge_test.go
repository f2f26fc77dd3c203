package gauge_test

import (
	"math"
	"math/rand"
	"slices"
	"strings"
	"testing"

	"heliograph/api"
	"heliograph/crate"
	"heliograph/frame"
	"heliograph/gauge"
)

const (
	greatest = 1 << 40 // of a part of a size
	places   = 4096    // of a row
)

// ends are numbers at the ends of their type, at the ends of others, and at those of a row.
var ends = []int{math.MinInt, math.MinInt + 1, -1 << 53, -1 << 32, math.MinInt32, -places, -2, -1, 0, 1, 2, places - 1, places, places + 1, math.MaxInt32, 1 << 32, greatest, 1 << 52, 1<<53 + 1, math.MaxInt - 1, math.MaxInt}

// pair is a size by whole numbers, as a model reckons it.
type pair struct{ recs, bytes int }

func (p pair) size() complex128 { return complex(float64(p.recs), float64(p.bytes)) }

// noParts are numbers that are no part of a size.
func noParts() []float64 {
	return []float64{-1, -0.5, -greatest, greatest + 1, greatest + 0.5, greatest * 2, 0.5, 1.5, 1e-300, math.SmallestNonzeroFloat64, -math.SmallestNonzeroFloat64,
		math.Nextafter(0, -1), math.Nextafter(1, 0), math.Nextafter(1, 2), math.Nextafter(greatest, 0), math.Nextafter(greatest, greatest+1),
		1 << 53, 1 << 62, 1 << 63, 1 << 64, -1 << 63, math.MaxFloat64, -math.MaxFloat64, math.Inf(1), math.Inf(-1), math.NaN()}
}

// noSizes have a wrong part at either place, and at both.
func noSizes() []complex128 {
	var list []complex128
	for _, x := range noParts() {
		list = append(list, complex(x, 0), complex(0, x), complex(x, 7), complex(7, x), complex(x, x), complex(greatest, x), complex(x, greatest))
	}
	return append(list, complex(math.Inf(1), math.NaN()), complex(math.NaN(), math.Inf(-1)), complex(-1, greatest+1))
}

// edges are sizes whose parts stand at an edge.
func edges() []pair {
	var list []pair
	for _, n := range []int{0, 1, 2, 255, 1 << 31, 1<<32 - 1, 1 << 32, greatest - 1, greatest} {
		for _, k := range []int{0, 1, 1<<32 + 1, greatest - 1, greatest} {
			list = append(list, pair{n, k}, pair{k, n})
		}
	}
	return list
}

// row is a row of some sizes.
func row(t *testing.T, list ...complex128) *gauge.Row {
	t.Helper()
	r := gauge.New()
	for _, c := range list {
		if e := r.Push(c); e != api.OK {
			t.Fatalf("Push(%v): %d", c, e)
		}
	}
	return r
}

// isRow: all that a row answers is what its sizes, reckoned by whole numbers, have it answer.
func isRow(t *testing.T, r *gauge.Row, list ...complex128) {
	t.Helper()
	if r.Len() != len(list) {
		t.Errorf("Len() = %d, want %d", r.Len(), len(list))
	}
	var sizes, sums []complex128
	for c, sum := range r.All() {
		sizes, sums = append(sizes, c), append(sums, sum)
	}
	if !slices.Equal(sizes, list) {
		t.Errorf("All() has %.200v, want %.200v", sizes, list)
	}
	up := upTo(list)
	if !slices.Equal(sums, up[1:]) {
		t.Errorf("All() sums up to %.200v, want %.200v", sums, up[1:])
	}
	if got := r.Sum(); got != up[len(list)] {
		t.Errorf("Sum() = %v, want %v", got, up[len(list)])
	}
	for _, at := range append([]int{len(list) - 1, len(list), len(list) + 1, len(list) / 2}, ends...) {
		if got, want := r.Ahead(at), up[min(max(at, 0), len(list))]; got != want {
			t.Errorf("Ahead(%d) of %d = %v, want %v", at, len(list), got, want)
		}
	}
}

// upTo: the sums of no size, of the first one, of the first two, and so on.
func upTo(list []complex128) []complex128 {
	var sum pair
	sums := []complex128{0}
	for _, c := range list {
		sum.recs += int(real(c))
		sum.bytes += int(imag(c))
		sums = append(sums, sum.size())
	}
	return sums
}

// over: Over as the chapter tells it: each number is tried, from the least on.
func over(list []complex128, most int) int {
	for n := range list {
		bytes := 0
		for _, c := range list[n:] {
			bytes += int(imag(c))
		}
		if bytes <= most {
			return n
		}
	}
	return max(len(list)-1, 0)
}

func TestOf(t *testing.T) {
	key, val := strings.Repeat("k", 16), strings.Repeat("v", 64)
	for name, c := range map[string]struct {
		b     api.Batch
		bytes string // without its frame's eight ahead
	}{
		"the crate's example": {api.Batch{Base: 5, Count: 1, Prod: 1, Time: 9, Recs: []api.Rec{{Off: 5, Key: "k", Val: "v"}}}, "li5ei1ei1ei0ei9eli5e1:k1:vi0eee"},
		"no record left":      {api.Batch{Count: 8}, "li0ei8ei0ei0ei0ee"},
		"an empty list":       {api.Batch{Count: 8, Recs: []api.Rec{}}, "li0ei8ei0ei0ei0ee"},
		"one of eight left":   {api.Batch{Base: 10, Count: 8, Recs: []api.Rec{{Off: 17}}}, "li10ei8ei0ei0ei0eli17e0:0:i0eee"},
		"a record Gone":       {api.Batch{Count: 2, Recs: []api.Rec{{Off: 1, Gone: true}}}, "li0ei2ei0ei0ei0eli1e0:0:i1eee"},
		"two records":         {api.Batch{Count: 2, Recs: []api.Rec{{Key: "a"}, {Off: 1, Val: val}}}, "li0ei2ei0ei0ei0eli0e1:a0:i0eeli1e0:64:" + val + "i0eee"},
		"greatest key":        {api.Batch{Count: 1, Recs: []api.Rec{{Key: key, Val: val}}}, "li0ei1ei0ei0ei0eli0e16:" + key + "64:" + val + "i0eee"},
		"greatest numbers":    {api.Batch{Base: greatest - 8, Count: 8, Prod: greatest, Seq: greatest, Time: greatest}, "li1099511627768ei8ei1099511627776ei1099511627776ei1099511627776ee"},
	} {
		if got, want := gauge.Of(c.b), (pair{len(c.b.Recs), 8 + len(c.bytes)}).size(); got != want {
			t.Errorf("%s: %v, want %v", name, got, want)
		}
	}
}

// full is a batch that has the greatest of all.
func full() api.Batch {
	b := api.Batch{Base: greatest - 8, Count: 8, Prod: greatest, Seq: greatest, Time: greatest}
	for i := range 8 {
		b.Recs = append(b.Recs, api.Rec{Off: b.Base + i, Key: strings.Repeat("k", 16), Val: strings.Repeat("v", 64)})
	}
	return b
}

// However many records are cleaned away, a size tells those that are left, and the bytes of the frame that is then written.
func TestOfIsTheFramesBytes(t *testing.T) {
	for left := range 1 << 8 {
		b := full()
		b.Recs = slices.DeleteFunc(b.Recs, func(r api.Rec) bool { return left>>(r.Off-b.Base)&1 == 0 })
		body, e := crate.Encode(b)
		if e != api.OK {
			t.Fatal(left, e)
		}
		text, e := frame.Put(body)
		if e != api.OK {
			t.Fatal(left, e)
		}
		size := gauge.Of(b)
		if size != (pair{len(b.Recs), len(text)}).size() {
			t.Errorf("%08b: %v, want %d, %d", left, size, len(b.Recs), len(text))
		}
		if n, k := gauge.Parts(size); n != len(b.Recs) || k != len(text) {
			t.Errorf("%08b: parts %d, %d", left, n, k)
		}
	}
}

func TestOfNoBatch(t *testing.T) {
	if c := gauge.Of(api.Batch{}); c != 0 {
		t.Error("the zero value:", c)
	}
	for name, spoil := range map[string]func(b *api.Batch){
		"Base":          func(b *api.Batch) { b.Base = -1 },
		"greatest Base": func(b *api.Batch) { b.Base = math.MaxInt },
		"Count":         func(b *api.Batch) { b.Count = 9 },
		"no Count":      func(b *api.Batch) { b.Count = 0 },
		"Prod":          func(b *api.Batch) { b.Prod = greatest + 1 },
		"Seq":           func(b *api.Batch) { b.Seq = math.MinInt },
		"Time":          func(b *api.Batch) { b.Time = -1 },
		"more Recs":     func(b *api.Batch) { b.Recs = append(b.Recs, api.Rec{Off: b.Base + b.Count}) },
		"falling Recs":  func(b *api.Batch) { slices.Reverse(b.Recs) },
		"a Key":         func(b *api.Batch) { b.Recs[3].Key += "k" },
		"a Val":         func(b *api.Batch) { b.Recs[7].Val += "v" },
		"Gone":          func(b *api.Batch) { b.Recs[0].Gone = true },
		"many Recs":     func(b *api.Batch) { b.Recs = make([]api.Rec, 5000) },
	} {
		b := full()
		spoil(&b)
		if c := gauge.Of(b); c != 0 {
			t.Errorf("%s: %v", name, c)
		}
	}
}

func TestOfLeavesTheBatch(t *testing.T) {
	b := full()
	b.Recs = b.Recs[:6] // two more stand in its spare room
	gauge.Of(b)
	b.Recs = b.Recs[:8]
	if !crate.Same(b, full()) {
		t.Error(b)
	}
}

func TestParts(t *testing.T) {
	for _, p := range edges() {
		if n, k := gauge.Parts(p.size()); n != p.recs || k != p.bytes {
			t.Errorf("Parts(%v) = %d, %d", p, n, k)
		}
	}
	for _, c := range noSizes() {
		if n, k := gauge.Parts(c); n != 0 || k != 0 {
			t.Errorf("Parts(%v) = %d, %d", c, n, k)
		}
	}
}

// A zero with a sign is the whole number 0.
func TestSignedZero(t *testing.T) {
	zero := math.Copysign(0, -1)
	for _, c := range []complex128{complex(zero, 3), complex(3, zero), complex(zero, zero)} {
		if n, k := gauge.Parts(c); float64(n) != real(c) || float64(k) != imag(c) {
			t.Errorf("Parts(%v) = %d, %d", c, n, k)
		}
		r := row(t, 5+5i, c)
		isRow(t, r, 5+5i, c)
		if e := r.Set(0, c); e != api.OK {
			t.Error(c, e)
		}
		isRow(t, r, c, c)
	}
}

func TestExample(t *testing.T) {
	r := row(t, 2+30i, 1+20i, 1+10i)
	if r.Sum() != 4+60i || r.Over(35) != 1 || r.Over(0) != 2 {
		t.Error(r.Sum(), r.Over(35), r.Over(0))
	}
}

func TestNew(t *testing.T) {
	r, other := gauge.New(), gauge.New()
	isRow(t, r)
	if e := r.Push(1 + 2i); e != api.OK {
		t.Error(e)
	}
	isRow(t, r, 1+2i)
	isRow(t, other)
	isRow(t, gauge.New())
}

func TestPush(t *testing.T) {
	r := gauge.New()
	var list []complex128
	for _, p := range edges() {
		if e := r.Push(p.size()); e != api.OK {
			t.Errorf("Push(%v): %d", p, e)
		}
		list = append(list, p.size())
		isRow(t, r, list...)
	}
}

func TestPushOfNoSize(t *testing.T) {
	r, empty := row(t, 1+2i, 3+4i), gauge.New()
	for _, c := range noSizes() {
		if e := r.Push(c); e != api.ErrArg {
			t.Errorf("Push(%v): %d", c, e)
		}
		if e := empty.Push(c); e != api.ErrArg {
			t.Errorf("Push(%v) to a row of none: %d", c, e)
		}
	}
	isRow(t, r, 1+2i, 3+4i)
	isRow(t, empty)
}

// filled is a row that has all its places, and the sizes that stand there.
func filled(t *testing.T) (*gauge.Row, []complex128) {
	t.Helper()
	var list []complex128
	for i := range places {
		list = append(list, pair{i, greatest - i}.size())
	}
	return row(t, list...), list
}

func TestFullRow(t *testing.T) {
	r, list := filled(t)
	for _, c := range []complex128{0, 1 + 1i, greatest, -1} {
		if e := r.Push(c); e != api.ErrArg {
			t.Errorf("Push(%v) to a full row: %d", c, e)
		}
	}
	isRow(t, r, list...)
	// A full row's sizes may still be others.
	for _, at := range []int{0, places / 2, places - 1} {
		list[at] = 8 + 9i
		if e := r.Set(at, list[at]); e != api.OK {
			t.Error(at, e)
		}
	}
	if e := r.Set(places, 1); e != api.ErrArg {
		t.Error("a place too many:", e)
	}
	isRow(t, r, list...)
	// Where one is taken there is room for one.
	for range 3 {
		if c, ok := r.Shift(); c != list[0] || !ok {
			t.Error(c, ok)
		}
		if e := r.Push(7i); e != api.OK {
			t.Error(e)
		}
		if e := r.Push(7i); e != api.ErrArg {
			t.Error(e)
		}
		list = append(list[1:], 7i)
	}
	isRow(t, r, list...)
}

func TestShift(t *testing.T) {
	var list []complex128
	for _, p := range edges() {
		list = append(list, p.size())
	}
	r := row(t, list...)
	for len(list) > 0 {
		if c, ok := r.Shift(); c != list[0] || !ok {
			t.Errorf("Shift() = %v, %t; want %v", c, ok, list[0])
		}
		list = list[1:]
		isRow(t, r, list...)
	}
	for range 3 {
		if c, ok := r.Shift(); c != 0 || ok {
			t.Errorf("Shift() of none = %v, %t", c, ok)
		}
		isRow(t, r)
	}
	if e := r.Push(1 + 2i); e != api.OK {
		t.Error(e)
	}
	isRow(t, r, 1+2i)
	if c, ok := r.Shift(); c != 1+2i || !ok {
		t.Error(c, ok)
	}
	isRow(t, r)
	if c, ok := row(t, 0).Shift(); c != 0 || !ok {
		t.Error("a size of none is one:", c, ok)
	}
}

func TestSet(t *testing.T) {
	list := []complex128{1 + 2i, 3 + 4i, 5 + 6i, 7 + 8i}
	for at := range list {
		for _, p := range edges() {
			r := row(t, list...)
			if e := r.Set(at, p.size()); e != api.OK {
				t.Errorf("Set(%d, %v): %d", at, p, e)
			}
			other := slices.Clone(list)
			other[at] = p.size()
			isRow(t, r, other...)
			if e := r.Set(at, list[at]); e != api.OK {
				t.Errorf("Set(%d) back: %d", at, e)
			}
			isRow(t, r, list...)
		}
	}
}

// Places are counted from the first one that is there, not from one that was taken.
func TestSetBehindShift(t *testing.T) {
	r := row(t, 1+2i, 3+4i, 5+6i)
	r.Shift()
	if e := r.Set(0, 10+20i); e != api.OK {
		t.Error(e)
	}
	if e := r.Set(2, 1); e != api.ErrArg {
		t.Error(e)
	}
	isRow(t, r, 10+20i, 5+6i)
}

func TestSetAtNoPlace(t *testing.T) {
	list := []complex128{1 + 2i, 3 + 4i, 5 + 6i}
	r, empty := row(t, list...), gauge.New()
	for _, at := range append([]int{3, 4, -3}, ends...) {
		if at < 0 || at >= len(list) {
			for _, c := range []complex128{0, 1 + 1i, -1} {
				if e := r.Set(at, c); e != api.ErrArg {
					t.Errorf("Set(%d, %v): %d", at, c, e)
				}
			}
		}
		if e := empty.Set(at, 1); e != api.ErrArg {
			t.Errorf("Set(%d) of a row of none: %d", at, e)
		}
	}
	isRow(t, r, list...)
	isRow(t, empty)
}

func TestSetOfNoSize(t *testing.T) {
	r := row(t, 1+2i, 3+4i)
	for _, c := range noSizes() {
		for at := range 2 {
			if e := r.Set(at, c); e != api.ErrArg {
				t.Errorf("Set(%d, %v): %d", at, c, e)
			}
		}
	}
	isRow(t, r, 1+2i, 3+4i)
}

// The greatest sizes together are told to the last one, and none is left behind when they are taken.
func TestGreatSumsAreExact(t *testing.T) {
	r, sum := gauge.New(), pair{}
	for i := range places {
		p := pair{greatest - i%2, greatest - i%3}
		if e := r.Push(p.size()); e != api.OK {
			t.Fatal(e)
		}
		sum.recs += p.recs
		sum.bytes += p.bytes
	}
	if r.Sum() != sum.size() || r.Ahead(places) != sum.size() || int(imag(r.Sum())) != sum.bytes {
		t.Errorf("%v, %v, want %v", r.Sum(), r.Ahead(places), sum)
	}
	if e := r.Set(places-1, 1+1i); e != api.OK {
		t.Error(e)
	}
	for range places - 1 {
		r.Shift()
	}
	isRow(t, r, 1+1i)
	if r.Over(1) != 0 || r.Over(0) != 0 {
		t.Error(r.Over(1), r.Over(0))
	}
}

// A row parted anywhere has its sum in its two parts (P4.5), and All tells what Ahead does.
func TestPartedRow(t *testing.T) {
	r, list := filled(t)
	up := upTo(list)
	for at := range places + 1 {
		behind := pair{}
		for _, c := range list[at:] {
			behind.recs += int(real(c))
			behind.bytes += int(imag(c))
		}
		if r.Ahead(at) != up[at] || r.Ahead(at)+behind.size() != r.Sum() {
			t.Fatalf("at %d: %v and %v, want %v", at, r.Ahead(at), behind, r.Sum())
		}
	}
	at := 0
	for c, sum := range r.All() {
		if sum != r.Ahead(at+1) || r.Ahead(at)+c != sum {
			t.Fatalf("at %d: %v, %v", at, c, sum)
		}
		at++
	}
	if at != places {
		t.Error(at)
	}
}

func TestAllStopsEarly(t *testing.T) {
	r := row(t, 1+2i, 3+4i, 5+6i)
	all := r.All()
	for most := range 5 {
		var sizes []complex128
		for c := range all {
			if len(sizes) == most {
				break
			}
			sizes = append(sizes, c)
		}
		if want := []complex128{1 + 2i, 3 + 4i, 5 + 6i}[:min(most, 3)]; !slices.Equal(sizes, want) {
			t.Errorf("stopped behind %d: %v", most, sizes)
		}
	}
	// Who says that it is enough isn't called again.
	calls := 0
	all(func(complex128, complex128) bool { calls++; return calls < 2 })
	if calls != 2 {
		t.Error(calls)
	}
	isRow(t, r, 1+2i, 3+4i, 5+6i)
}

// What is done to a row while one goes over it is seen by the next one who goes.
func TestAllIsAsItWasWhenTheGoingBegan(t *testing.T) {
	for name, change := range map[string]func(r *gauge.Row){
		"Push":  func(r *gauge.Row) { r.Push(100 + 100i) },
		"Set":   func(r *gauge.Row) { r.Set(0, 100); r.Set(1, 100+100i); r.Set(2, 100i) },
		"Shift": func(r *gauge.Row) { r.Shift() },
		"anew": func(r *gauge.Row) {
			r.Shift()
			r.Shift()
			r.Shift()
			r.Push(9)
			r.Push(9)
			r.Push(9)
		},
		"turn":    func(r *gauge.Row) { c, _ := r.Shift(); r.Push(c) },
		"nothing": func(r *gauge.Row) { r.Push(-1); r.Set(7, 7) },
		"far more": func(r *gauge.Row) {
			for range 500 {
				r.Push(1)
			}
		},
	} {
		for begin := range 3 {
			r := row(t, 1+2i, 3+4i, 5+6i)
			var got []complex128
			for c, sum := range r.All() {
				if len(got) >= 2*begin {
					change(r)
				}
				got = append(got, c, sum)
			}
			if want := []complex128{1 + 2i, 1 + 2i, 3 + 4i, 4 + 6i, 5 + 6i, 9 + 12i}; !slices.Equal(got, want) {
				t.Errorf("%s from %d on: %v", name, begin, got)
			}
		}
	}
}

// The going begins with the range, not with the call that answers the iterator; each going begins anew.
func TestEachGoingBeginsAnew(t *testing.T) {
	r := gauge.New()
	all := r.All()
	for n := range 5 {
		var sizes []complex128
		for c, sum := range all {
			sizes = append(sizes, c)
			if sum != complex(float64(len(sizes)), float64(len(sizes))) {
				t.Error(n, c, sum)
			}
		}
		if len(sizes) != n {
			t.Errorf("%d: %v", n, sizes)
		}
		r.Push(1 + 1i)
	}
	r.Shift()
	r.Set(0, 9)
	n := 0
	for c := range all {
		if n == 0 && c != 9 {
			t.Error(c)
		}
		n++
	}
	if n != 4 {
		t.Error(n)
	}
}

func TestGoingsInOneAnother(t *testing.T) {
	r := row(t, 1, 2, 3)
	all := r.All()
	var got []complex128
	for _, a := range all {
		for _, b := range all {
			got = append(got, a*10+b)
		}
		r.Shift()
	}
	if want := []complex128{11, 13, 16, 32, 35, 63}; !slices.Equal(got, want) {
		t.Error(got)
	}
}

func TestOver(t *testing.T) {
	r := row(t, 1+30i, 1+20i, 1+10i)
	for most, want := range map[int]int{math.MaxInt: 0, 1 << 53: 0, 61: 0, 60: 0, 59: 1, 31: 1, 30: 1, 29: 2, 11: 2, 10: 2, 9: 2, 1: 2, 0: 2, -1: 2, math.MinInt: 2} {
		if n := r.Over(most); n != want {
			t.Errorf("Over(%d) = %d, want %d", most, n, want)
		}
	}
	isRow(t, r, 1+30i, 1+20i, 1+10i)
}

func TestOverOfShortRows(t *testing.T) {
	for _, most := range ends {
		for _, list := range [][]complex128{{}, {5 + 10i}, {5}, {greatest * 1i}, {0, 0}, {7, 7}, {1i, 0}, {0, 1i}, {0, 1i, 0}, {2i, 0, 0}, {0, 0, 2i}, {greatest, greatest * 1i}} {
			if n, want := row(t, list...).Over(most), over(list, most); n != want {
				t.Errorf("Over(%d) of %v = %d, want %d", most, list, n, want)
			}
		}
	}
	if gauge.New().Over(0) != 0 || gauge.New().Over(-1) != 0 {
		t.Error("a row of none")
	}
}

// It is the bytes alone that are over, however many records there are.
func TestOverCountsBytes(t *testing.T) {
	r := row(t, greatest+1i, greatest+1i, greatest+1i)
	for most, want := range []int{2, 2, 1, 0, 0} {
		if n := r.Over(most); n != want {
			t.Errorf("Over(%d) = %d, want %d", most, n, want)
		}
	}
}

// The last one stays, however great it is; sizes together may be greater than a size is.
func TestOverOfGreatSizes(t *testing.T) {
	r, list := filled(t)
	up := upTo(list)
	all := int(imag(r.Sum()))
	for _, n := range []int{0, 1, 2, 77, places - 2, places - 1} {
		rest := all - int(imag(up[n]))
		if got := r.Over(rest); got != n {
			t.Errorf("Over(%d) = %d, want %d", rest, got, n)
		}
		if got := r.Over(rest - 1); got != min(n+1, places-1) {
			t.Errorf("Over(%d) = %d, want %d", rest-1, got, n+1)
		}
		if got := r.Over(rest + 1); got != n {
			t.Errorf("Over(%d) = %d, want %d", rest+1, got, n)
		}
	}
	if r.Over(-1) != places-1 || r.Over(math.MinInt) != places-1 || r.Over(math.MaxInt) != 0 {
		t.Error(r.Over(-1), r.Over(math.MinInt), r.Over(math.MaxInt))
	}
}

func TestNilRow(t *testing.T) {
	var r *gauge.Row
	for _, c := range append(noSizes(), 0, 1+1i, greatest) {
		if e := r.Push(c); e != api.ErrNil {
			t.Errorf("Push(%v): %d", c, e)
		}
		for _, at := range ends {
			if e := r.Set(at, c); e != api.ErrNil {
				t.Errorf("Set(%d, %v): %d", at, c, e)
			}
		}
	}
	if c, ok := r.Shift(); c != 0 || ok {
		t.Error(c, ok)
	}
	for _, n := range ends {
		if r.Ahead(n) != 0 || r.Over(n) != 0 {
			t.Error(n, r.Ahead(n), r.Over(n))
		}
	}
	isRow(t, r)
}

// Whatever is done to a row, in whatever order, it is what a list of pairs of whole numbers is.
func TestRowsByAModel(t *testing.T) {
	for seed := range int64(60) {
		random := rand.New(rand.NewSource(seed))
		part := func() int { return []int{0, 1, random.Intn(100), random.Intn(greatest), greatest}[random.Intn(5)] }
		r := gauge.New()
		var list []complex128
		for range 300 {
			size := pair{part(), part()}.size()
			switch at := random.Intn(len(list)+3) - 1; random.Intn(5) {
			case 0, 1:
				if e := r.Push(size); e != api.OK {
					t.Fatal(seed, size, e)
				}
				list = append(list, size)
			case 2:
				c, ok := r.Shift()
				if ok != (len(list) > 0) || ok && c != list[0] {
					t.Fatal(seed, c, ok)
				}
				list = list[min(1, len(list)):]
			case 3:
				e := r.Set(at, size)
				if inside := at >= 0 && at < len(list); inside != (e == api.OK) {
					t.Fatal(seed, at, e)
				} else if inside {
					list[at] = size
				}
			case 4:
				most := part() * random.Intn(20)
				if n, want := r.Over(most), over(list, most); n != want {
					t.Fatal(seed, most, n, want)
				}
			}
		}
		isRow(t, r, list...)
	}
}

// A row through which very many sizes go is still the few that are there.
func TestLongUse(t *testing.T) {
	r := row(t, 1+1i, 2+2i)
	for n := 3; n < 200000; n++ {
		c := pair{n, n}.size()
		if e := r.Push(c); e != api.OK {
			t.Fatal(n, e)
		}
		if first, ok := r.Shift(); first != c-(2+2i) || !ok {
			t.Fatal(n, first, ok)
		}
	}
	isRow(t, r, 199998+199998i, 199999+199999i)
}
