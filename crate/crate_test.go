package crate_test

import (
	"fmt"
	"math"
	"math/rand"
	"reflect"
	"slices"
	"strings"
	"testing"

	"heliograph/api"
	"heliograph/crate"
	"heliograph/frame"
)

const far = 1 << 40 // MaxOffset, MaxSeq and the last time

// ends are numbers beyond all that a batch's numbers may be.
var ends = []int{math.MinInt, math.MinInt + 1, math.MinInt32, -far, -2, -1, far + 1, far + 2, math.MaxInt - 1, math.MaxInt}

// plain is a batch of eight offsets of which three have a record.
func plain() api.Batch {
	return api.Batch{Base: 10, Count: 8, Prod: 3, Seq: 4, Time: 5, Recs: []api.Rec{
		{Off: 10, Key: "a", Val: "1"}, {Off: 13, Key: "", Gone: true}, {Off: 17, Key: "b", Val: ""}}}
}

const plainBytes = "li10ei8ei3ei4ei5eli10e1:a1:1i0eeli13e0:0:i1eeli17e1:b0:i0eee"

// full is a batch that has the greatest of all.
func full() api.Batch {
	b := api.Batch{Base: far - 8, Count: 8, Prod: far, Seq: far, Time: far}
	for i := range 8 {
		b.Recs = append(b.Recs, api.Rec{Off: far - 8 + i, Key: strings.Repeat("k", 16), Val: strings.Repeat("v", 64)})
	}
	return b
}

// batch is a batch of some numbers and records, written short.
func batch(base, count, prod, seq, time int, recs ...api.Rec) api.Batch {
	return api.Batch{Base: base, Count: count, Prod: prod, Seq: seq, Time: time, Recs: recs}
}

// offs are records without key and value at offsets.
func offs(list ...int) []api.Rec {
	var recs []api.Rec
	for _, off := range list {
		recs = append(recs, api.Rec{Off: off})
	}
	return recs
}

// all are records from an offset on, as many as are asked for.
func all(n, from int) []api.Rec {
	recs := make([]api.Rec, n)
	for i := range recs {
		recs[i] = api.Rec{Off: from + i, Key: string(rune('a' + i)), Val: "v"}
	}
	return recs
}

// deep is a batch with memory of its own.
func deep(b api.Batch) api.Batch {
	b.Recs = slices.Clone(b.Recs)
	return b
}

// alike: whether two batches are equal, told without the package.
func alike(a, b api.Batch) bool {
	if len(a.Recs) == 0 && len(b.Recs) == 0 {
		a.Recs, b.Recs = nil, nil
	}
	return reflect.DeepEqual(a, b)
}

// model writes a batch's bytes as the chapter's words have them.
func model(b api.Batch) string {
	var s strings.Builder
	fmt.Fprintf(&s, "li%dei%dei%dei%dei%de", b.Base, b.Count, b.Prod, b.Seq, b.Time)
	for _, r := range b.Recs {
		gone := 0
		if r.Gone {
			gone = 1
		}
		fmt.Fprintf(&s, "li%de%d:%s%d:%si%dee", r.Off, len(r.Key), r.Key, len(r.Val), r.Val, gone)
	}
	return s.String() + "e"
}

// goodBatches are such as stand at an edge of what a batch may be.
func goodBatches() map[string]api.Batch {
	key, val := strings.Repeat("k", 16), strings.Repeat("v", 64)
	return map[string]api.Batch{
		"plain":               plain(),
		"full":                full(),
		"least":               batch(0, 1, 0, 0, 0),
		"least, empty":        batch(0, 1, 0, 0, 0, []api.Rec{}...),
		"a record":            batch(0, 1, 0, 0, 0, api.Rec{}),
		"two, Count":          batch(0, 2, 0, 0, 0),
		"greatest Count":      batch(0, 8, 0, 0, 0),
		"greatest Prod":       batch(0, 1, far, 0, 0),
		"greatest Seq":        batch(0, 1, 0, far, 0),
		"greatest Time":       batch(0, 1, 0, 0, far),
		"one below":           batch(far-9, 8, far-1, far-1, far-1, offs(far-9, far-2)...),
		"greatest Base":       batch(far-1, 1, 0, 0, 0),
		"greatest Base, rec":  batch(far-1, 1, 0, 0, 0, offs(far-1)...),
		"last eight":          batch(far-8, 8, 0, 0, 0, offs(far-8, far-1)...),
		"above 32 bits":       batch(1<<32, 3, 1<<33, 1<<34, 1<<35, offs(1<<32+2)...),
		"eight":               batch(100, 8, 1, 1, 1, all(8, 100)...),
		"first alone":         batch(5, 4, 1, 1, 1, offs(5)...),
		"last alone":          batch(5, 4, 1, 1, 1, offs(8)...),
		"middle alone":        batch(5, 4, 1, 1, 1, offs(6)...),
		"first and last":      batch(5, 4, 1, 1, 1, offs(5, 8)...),
		"all cleaned away":    batch(5, 4, 1, 1, 1),
		"key of 16":           batch(0, 1, 0, 0, 0, api.Rec{Key: key}),
		"val of 64":           batch(0, 1, 0, 0, 0, api.Rec{Val: val}),
		"key and val":         batch(0, 1, 0, 0, 0, api.Rec{Key: key, Val: val}),
		"gone, key of 16":     batch(0, 1, 0, 0, 0, api.Rec{Key: key, Gone: true}),
		"gone, no key":        batch(0, 1, 0, 0, 0, api.Rec{Gone: true}),
		"bytes that mean e":   batch(0, 2, 0, 0, 0, api.Rec{Off: 0, Key: "e", Val: "ee"}, api.Rec{Off: 1, Key: "i1e", Val: "le1:a"}),
		"any bytes":           batch(0, 1, 0, 0, 0, api.Rec{Key: "\x00\xff\n:", Val: "\xfe\x80\u00e4\u65e5"}),
		"one key many times":  batch(0, 3, 0, 0, 0, api.Rec{Off: 0, Key: "k", Val: "1"}, api.Rec{Off: 1, Key: "k", Gone: true}, api.Rec{Off: 2, Key: "k", Val: "1"}),
		"16 letters, 4 runes": batch(0, 1, 0, 0, 0, api.Rec{Key: strings.Repeat("\U0001F600", 4)}),
	}
}

// badBatches are such as are just none, and far from one.
func badBatches() map[string]api.Batch {
	bad := map[string]api.Batch{
		"zero":                 {},
		"Base -1":              batch(-1, 1, 0, 0, 0),
		"Base -1, rec":         batch(-1, 1, 0, 0, 0, offs(-1)...),
		"Base -1, rec 0":       batch(-1, 2, 0, 0, 0, offs(0)...),
		"Base at MaxOffset":    batch(far, 1, 0, 0, 0),
		"at MaxOffset, rec":    batch(far, 1, 0, 0, 0, offs(far)...),
		"end above":            batch(far-7, 8, 0, 0, 0),
		"end of one above":     batch(far-1, 2, 0, 0, 0, offs(far-1)...),
		"Count 0":              batch(0, 0, 0, 0, 0),
		"Count 0, rec":         batch(0, 0, 0, 0, 0, offs(0)...),
		"Count 9":              batch(0, 9, 0, 0, 0),
		"Count 9, recs":        batch(0, 9, 0, 0, 0, all(9, 0)...),
		"nine records":         batch(0, 8, 0, 0, 0, all(9, 0)...),
		"more than Count":      batch(0, 2, 0, 0, 0, all(3, 0)...),
		"rec ahead":            batch(5, 4, 1, 1, 1, offs(4)...),
		"rec behind":           batch(5, 4, 1, 1, 1, offs(9)...),
		"second behind":        batch(5, 4, 1, 1, 1, offs(5, 9)...),
		"twice":                batch(5, 4, 1, 1, 1, offs(6, 6)...),
		"falling":              batch(5, 4, 1, 1, 1, offs(7, 6)...),
		"falling in the end":   batch(5, 4, 1, 1, 1, offs(5, 6, 8, 7)...),
		"falling to the first": batch(5, 4, 1, 1, 1, offs(5, 6, 5)...),
		"rec at MinInt":        batch(5, 4, 1, 1, 1, offs(math.MinInt)...),
		"rec at MaxInt":        batch(5, 4, 1, 1, 1, offs(math.MaxInt)...),
		"behind MaxInt":        batch(5, 4, 1, 1, 1, offs(8, math.MaxInt, math.MinInt)...),
		"rec of -1":            batch(0, 4, 1, 1, 1, offs(-1, 0)...),
		"very many":            batch(0, 8, 1, 1, 1, make([]api.Rec, 100000)...),
		"Base and Count wrap":  batch(math.MaxInt, 8, 1, 1, 1),
		"Count of MaxInt":      batch(1, math.MaxInt, 1, 1, 1),
		"wrap to 0":            batch(math.MinInt, math.MinInt, 1, 1, 1),
	}
	for name, r := range badRecs() {
		bad["alone: "+name] = batch(0, 1, 0, 0, 0, r)
		last := r
		last.Off = 7
		bad["last: "+name] = batch(0, 8, 0, 0, 0, append(offs(0, 1, 2), last)...)
		bad["first: "+name] = batch(0, 8, 0, 0, 0, append([]api.Rec{r}, offs(1, 2, 7)...)...)
	}
	for k, spoil := range []func(b *api.Batch, n int){
		func(b *api.Batch, n int) { b.Base = n }, func(b *api.Batch, n int) { b.Count = n }, func(b *api.Batch, n int) { b.Prod = n },
		func(b *api.Batch, n int) { b.Seq = n }, func(b *api.Batch, n int) { b.Time = n }} {
		for _, n := range ends {
			b, c := plain(), batch(0, 1, 0, 0, 0)
			spoil(&b, n)
			spoil(&c, n)
			bad[fmt.Sprint("field ", k, " at ", n)] = b
			bad[fmt.Sprint("field ", k, " at ", n, ", no records")] = c
		}
	}
	return bad
}

// badRecs are no records, wherever they stand.
func badRecs() map[string]api.Rec {
	return map[string]api.Rec{
		"key of 17":              {Key: strings.Repeat("k", 17)},
		"key of 17, gone":        {Key: strings.Repeat("k", 17), Gone: true},
		"val of 65":              {Val: strings.Repeat("v", 65)},
		"gone with a val":        {Gone: true, Val: "x"},
		"gone with a 0 byte":     {Key: "k", Gone: true, Val: "\x00"},
		"gone with val of 65":    {Gone: true, Val: strings.Repeat("v", 65)},
		"key of very many":       {Key: strings.Repeat("k", 70000)},
		"val of very many":       {Val: strings.Repeat("v", 70000)},
		"9 runes of 18 bytes":    {Key: strings.Repeat("\u00e4", 9)},
		"22 runes of 66 bytes":   {Val: strings.Repeat("\u65e5", 22)},
		"val of 64 and a key 17": {Key: strings.Repeat("k", 17), Val: strings.Repeat("v", 64)},
	}
}

func TestExample(t *testing.T) {
	b, e := crate.Pack([]api.Rec{{Key: "k", Val: "v"}}, 5, 1, 0, 9)
	if e != api.OK {
		t.Fatal(e)
	}
	if s, e := crate.Encode(b); s != "li5ei1ei1ei0ei9eli5e1:k1:vi0eee" || e != api.OK {
		t.Error(s, e)
	}
}

func TestGood(t *testing.T) {
	for name, b := range goodBatches() {
		c := deep(b)
		if !crate.Good(b) {
			t.Error("none:", name, b)
		}
		if !alike(b, c) {
			t.Error("changed:", name)
		}
	}
	for name, b := range badBatches() {
		if crate.Good(b) {
			t.Error("good:", name)
		}
	}
}

func TestFits(t *testing.T) {
	for n := range 20 {
		if fits := crate.Fits(make([]api.Rec, n)); fits != (n >= 1 && n <= 8) {
			t.Error(n, fits)
		}
	}
	if crate.Fits(nil) || crate.Fits([]api.Rec{}) || crate.Fits(make([]api.Rec, 100000)) {
		t.Error("none, or too many, fit")
	}
	for name, b := range goodBatches() {
		if len(b.Recs) > 0 && !crate.Fits(b.Recs) {
			t.Error("doesn't fit:", name)
		}
	}
	for _, list := range [][]api.Rec{offs(-1), offs(math.MinInt, math.MaxInt), offs(7, 7, 3), offs(far + 1), offs(9, 8, 7, 6, 5, 4, 3, 2)} {
		if !crate.Fits(list) {
			t.Error("hangs on offsets:", list)
		}
	}
	for name, r := range badRecs() {
		for n := 1; n <= 8; n++ {
			for at := range n {
				list := all(n, 0)
				list[at] = r
				if crate.Fits(list) {
					t.Error("fits:", name, n, at)
				}
			}
		}
	}
}

func TestPack(t *testing.T) {
	for n := 1; n <= 8; n++ {
		for _, base := range []int{0, 1, 77, 1 << 32, far - 8 - 1, far - 8, far - n} {
			list := all(n, -3)
			list[n-1].Gone, list[n-1].Val = true, ""
			want := api.Batch{Base: base, Count: n, Prod: 3, Seq: 4, Time: 5, Recs: slices.Clone(list)}
			for i := range want.Recs {
				want.Recs[i].Off = base + i
			}
			if b, e := crate.Pack(list, base, 3, 4, 5); e != api.OK || !reflect.DeepEqual(b, want) {
				t.Error(n, base, b, e)
			}
		}
	}
	b, e := crate.Pack(full().Recs, far-8, far, far, far)
	if e != api.OK || !alike(b, full()) {
		t.Error(b, e)
	}
	// What stands for Off in a record that is handed in means nothing.
	for _, off := range ends {
		b, e := crate.Pack([]api.Rec{{Off: off, Key: "k"}, {Off: off}}, 6, 0, 0, 0)
		if want := batch(6, 2, 0, 0, 0, api.Rec{Off: 6, Key: "k"}, api.Rec{Off: 7}); e != api.OK || !alike(b, want) {
			t.Error(off, b, e)
		}
	}
}

func TestPackNone(t *testing.T) {
	none := func(name string, list []api.Rec, base, prod, seq, time int) {
		t.Helper()
		if b, e := crate.Pack(list, base, prod, seq, time); e != api.ErrArg || !reflect.DeepEqual(b, api.Batch{}) {
			t.Error(name, b, e)
		}
	}
	none("nil", nil, 0, 0, 0, 0)
	none("empty", []api.Rec{}, 0, 0, 0, 0)
	none("nine", all(9, 0), 0, 0, 0, 0)
	none("very many", make([]api.Rec, 100000), 0, 0, 0, 0)
	for name, r := range badRecs() {
		none(name, []api.Rec{r}, 0, 0, 0, 0)
		none(name+", last", append(all(7, 0), r), 0, 0, 0, 0)
	}
	for _, n := range ends {
		none(fmt.Sprint("base ", n), all(2, 0), n, 0, 0, 0)
		none(fmt.Sprint("prod ", n), all(2, 0), 0, n, 0, 0)
		none(fmt.Sprint("seq ", n), all(2, 0), 0, 0, n, 0)
		none(fmt.Sprint("time ", n), all(2, 0), 0, 0, 0, n)
	}
	for n := 1; n <= 8; n++ {
		none(fmt.Sprint("end above, of ", n), all(n, 0), far-n+1, 0, 0, 0)
	}
}

func TestEncode(t *testing.T) {
	if s, e := crate.Encode(plain()); s != plainBytes || e != api.OK {
		t.Error(s, e)
	}
	for name, b := range goodBatches() {
		c := deep(b)
		if s, e := crate.Encode(b); s != model(b) || e != api.OK {
			t.Error(name, s, e)
		}
		if !alike(b, c) {
			t.Error("changed:", name)
		}
	}
	for name, b := range badBatches() {
		if s, e := crate.Encode(b); s != "" || e != api.ErrArg {
			t.Error(name, s, e)
		}
	}
}

func TestDecode(t *testing.T) {
	for name, b := range goodBatches() {
		if c, e := crate.Decode(model(b)); e != api.OK || !alike(b, c) {
			t.Error(name, c, e)
		}
	}
	for name, b := range badBatches() {
		wrong(t, name, model(b))
	}
}

// wrong: bytes are no batch's.
func wrong(t *testing.T, name, s string) {
	t.Helper()
	if b, e := crate.Decode(s); e != api.ErrForm || !reflect.DeepEqual(b, api.Batch{}) {
		t.Errorf("%s: %.80q is %v, %v", name, s, b, e)
	}
}

func TestDecodeCut(t *testing.T) {
	for name, b := range goodBatches() {
		s := model(b)
		for n := range len(s) {
			wrong(t, name+", cut", s[:n])
			if n > 0 {
				wrong(t, name+", begun late", s[n:])
			}
		}
		for _, behind := range []string{"e", "l", "le", "i0e", "0:", "\x00", " ", "\n", s} {
			wrong(t, name+", more behind", s+behind)
			wrong(t, name+", more ahead", behind+s)
		}
	}
}

// A byte that is another one, is missing, or is there twice: it is no batch, or another one that would be written so.
func TestDecodeSpoilt(t *testing.T) {
	same := func(s string) {
		b, e := crate.Decode(s)
		switch {
		case e == api.OK && model(b) != s:
			t.Errorf("%q is read as %v", s, b)
		case e != api.OK && (e != api.ErrForm || !reflect.DeepEqual(b, api.Batch{})):
			t.Errorf("%q: %v %v", s, b, e)
		}
	}
	short := full()
	short.Recs = short.Recs[6:]
	for _, s := range []string{plainBytes, model(short), model(batch(0, 2, 0, 0, 0, api.Rec{Key: "e", Gone: true}, api.Rec{Off: 1, Key: "1e", Val: "e1:"}))} {
		for i := range len(s) {
			for c := range 256 {
				same(s[:i] + string([]byte{byte(c)}) + s[i+1:])
				same(s[:i] + string([]byte{byte(c)}) + s[i:])
			}
			same(s[:i] + s[i+1:])
		}
	}
}

func TestDecodeForms(t *testing.T) {
	for _, s := range []string{
		"", "e", "l", "le", "lle", "i", "i0e", "0:", "llee", "hello", "\x00", strings.Repeat("l", 100000), strings.Repeat("le", 100000),
		"li10ei2ei3ei4ee",            // a number is missing
		"li10ei2ei3ei4ei5ei6ee",      // one too many
		"i10ei2ei3ei4ei5e",           // no list
		"li10ei2ei3ei4ei5e",          // no end
		"lli10ei2ei3ei4ei5eee",       // a list in a list
		"li10ei2ei3ei4e1:5e",         // a text for a number
		"li10ei2ei3e1:4i5ee",         //
		"l2:10i2ei3ei4ei5ee",         //
		"li010ei2ei3ei4ei5ee",        // a 0 ahead
		"li10ei2ei3ei4ei-0ee",        // -0
		"li10ei2ei3ei4ei5e0:e",       // a text for a record
		"li10ei2ei3ei4ei5eli10eee",   // a record that is too short
		"li10ei2ei3ei4ei5eleee",      //
		"li10ei2ei3ei4ei5elee",       //
		"li10ei2ei3ei4ei5eli10e0:ee", //
		"li10ei2ei3ei4ei5eli10e0:0:ee",
		"li10ei2ei3ei4ei5eli10e0:i0eee",
		"li10ei2ei3ei4ei5eli10e0:0:0:i0eee", // too long
		"li10ei2ei3ei4ei5eli10e0:0:i0ei0eee",
		"li10ei2ei3ei4ei5eli10e0:0:i0e0:ee",
		"li10ei2ei3ei4ei5eli10e0:0:i0eleee",
		"li10ei2ei3ei4ei5eli10e0:0:i0ee",   // the list's end is missing
		"li10ei2ei3ei4ei5eli10e0:0:i0eeee", // an end too many
		"li10ei2ei3ei4ei5eli10e0:i0e0:ee",  // in another order
		"li10ei2ei3ei4ei5el0:i10e0:i0eee",
		"li10ei2ei3ei4ei5el0:0:i10ei0eee",
		"li10ei2ei3ei4ei5el1:A0:0:i0eee",
		"li10ei2ei3ei4ei5eli10ei0ei0ei0eee",
		"li10ei2ei3ei4ei5eli10e0:0:0:ee",
		"li10ei2ei3ei4ei5eli10e0:0:1:1ee",
		"li10ei2ei3ei4ei5eli10e0:0:i0eei0ee",
		"li10ei2ei3ei4ei5eli10e0:0:i00eee",
		"li10ei2ei3ei4ei5eli10e00:0:i0eee",
		"li18446744073709551626ei2ei3ei4ei5ee", // 10, if it went round
	} {
		wrong(t, "form", s)
	}
	record := func(gone string) string { return "li10ei2ei3ei4ei5eli10e1:a0:i" + gone + "eee" }
	for _, gone := range []string{"2", "-1", "3", "10", "11", "00", "01", "-0", "", "a", "true", "256", "257", "4294967296", "4294967297", "9223372036854775807", "-9223372036854775808", "18446744073709551616", "18446744073709551617"} {
		wrong(t, "Gone", record(gone))
	}
	for gone, is := range map[string]bool{"0": false, "1": true} {
		if b, e := crate.Decode(record(gone)); e != api.OK || b.Recs[0].Gone != is {
			t.Error(gone, b, e)
		}
	}
	many := "li0ei8ei0ei0ei0e" + strings.Repeat("li0e0:0:i0ee", 200000) + "e"
	wrong(t, "very many records", many)
	wrong(t, "very many records, cut", many[:len(many)-3])
}

func TestSame(t *testing.T) {
	if !crate.Same(api.Batch{}, api.Batch{Recs: []api.Rec{}}) || !crate.Same(batch(1, 2, 3, 4, 5), batch(1, 2, 3, 4, 5, []api.Rec{}...)) {
		t.Error("nil and empty aren't one")
	}
	others := []func(b *api.Batch){
		func(b *api.Batch) { b.Base++ }, func(b *api.Batch) { b.Count-- }, func(b *api.Batch) { b.Prod++ }, func(b *api.Batch) { b.Seq++ }, func(b *api.Batch) { b.Time++ },
		func(b *api.Batch) { b.Base = math.MinInt }, func(b *api.Batch) { b.Count = 0 }, func(b *api.Batch) { b.Prod = -3 }, func(b *api.Batch) { b.Seq += 1 << 32 }, func(b *api.Batch) { b.Time = math.MaxInt },
		func(b *api.Batch) { b.Prod, b.Seq = b.Seq, b.Prod }, func(b *api.Batch) { b.Seq, b.Time = b.Time, b.Seq }, func(b *api.Batch) { b.Base, b.Count = b.Count, b.Base },
		func(b *api.Batch) { b.Recs = nil }, func(b *api.Batch) { b.Recs = b.Recs[1:] }, func(b *api.Batch) { b.Recs = b.Recs[:2] }, func(b *api.Batch) { b.Recs = append(b.Recs, api.Rec{}) },
		func(b *api.Batch) { b.Recs[0].Off++ }, func(b *api.Batch) { b.Recs[2].Off = -1 }, func(b *api.Batch) { b.Recs[0].Key = "A" }, func(b *api.Batch) { b.Recs[1].Key = "\x00" },
		func(b *api.Batch) { b.Recs[2].Val = "x" }, func(b *api.Batch) { b.Recs[0].Val = "" }, func(b *api.Batch) { b.Recs[1].Gone = false }, func(b *api.Batch) { b.Recs[2].Gone = true },
		func(b *api.Batch) { slices.Reverse(b.Recs) }, func(b *api.Batch) { b.Recs[0].Key, b.Recs[0].Val = "", "a1" },
	}
	for k, other := range others {
		b, c := plain(), plain()
		other(&c)
		kept := deep(c)
		if crate.Same(b, c) || crate.Same(c, b) {
			t.Error("same:", k, c)
		}
		if !crate.Same(c, deep(c)) || !alike(c, kept) || !alike(b, plain()) {
			t.Error("not the same, or changed:", k, c)
		}
	}
	for name, b := range goodBatches() {
		if !crate.Same(b, deep(b)) {
			t.Error("good, and not the same:", name)
		}
	}
	for name, b := range badBatches() {
		if !crate.Same(b, deep(b)) {
			t.Error("bad, and not the same:", name)
		}
	}
}

// Of all small batches, good ones and others: Good tells which they are, each is read as it was written, and no two are written alike.
func TestSmall(t *testing.T) {
	forms := map[string]api.Batch{}
	lists := [][]api.Rec{nil}
	for _, list := range [][]int{{0}, {1}, {2}, {3}, {0, 1}, {0, 2}, {1, 2}, {1, 0}, {1, 1}, {0, 1, 2}, {0, 2, 1}, {1, 2, 3}, {-1}} {
		for kind := range 4 {
			recs := offs(list...)
			for i := range recs {
				recs[i].Key, recs[i].Gone = []string{"", "e"}[kind&1], kind&2 != 0
			}
			lists = append(lists, recs)
		}
	}
	for _, recs := range lists {
		for n := range 3 * 4 * 2 * 2 * 2 {
			b := batch(n%3, n/3%4, n/12%2, n/24%2, n/48%2, recs...)
			s, e := crate.Encode(b)
			if crate.Good(b) != good(b) || (e == api.OK) != good(b) {
				t.Fatal(b, s, e)
			}
			if !good(b) {
				continue
			}
			if other, is := forms[s]; is && !alike(other, b) {
				t.Fatal("two of one form:", b, other)
			}
			forms[s] = b
			if c, e := crate.Decode(s); e != api.OK || !alike(b, c) || !crate.Same(b, c) {
				t.Fatal(b, c, e)
			}
		}
	}
	for s, b := range forms {
		for other, c := range forms {
			if crate.Same(b, c) != (s == other) {
				t.Fatal("same:", b, c)
			}
		}
	}
}

// good: whether it is a batch, as the chapter's words have it: by marking the offsets that may still have a record.
func good(b api.Batch) bool {
	within := func(n, least, most int) bool { return n >= least && n <= most }
	if !within(b.Base, 0, far) || !within(b.Count, 1, 8) || b.Base+b.Count > far || !within(b.Prod, 0, far) || !within(b.Seq, 0, far) || !within(b.Time, 0, far) || len(b.Recs) > b.Count {
		return false
	}
	may := map[int]bool{}
	for i := range b.Count {
		may[b.Base+i] = true
	}
	for _, r := range b.Recs {
		if !may[r.Off] || len(r.Key) > 16 || len(r.Val) > 64 || (r.Gone && len(r.Val) > 0) {
			return false
		}
		for off := range may {
			if off <= r.Off {
				delete(may, off)
			}
		}
	}
	return true
}

// Batches by chance (of a fixed seed), most of them near an edge.
func TestChance(t *testing.T) {
	chance := rand.New(rand.NewSource(3))
	number := func() int {
		return []int{0, 1, 2, 8, far - 8, far - 1, far, far + 1, -1, chance.Intn(far)}[chance.Intn(10)]
	}
	goods := 0
	for range 40000 {
		b := batch(number(), 1+chance.Intn(8), number(), number(), number())
		if chance.Intn(20) == 0 {
			b.Count = chance.Intn(12) - 1
		}
		off := b.Base + chance.Intn(3)
		for range chance.Intn(9) {
			r := api.Rec{Off: off, Key: strings.Repeat("k", chance.Intn(17)), Val: strings.Repeat("v", chance.Intn(65)), Gone: chance.Intn(4) == 0}
			if r.Gone && chance.Intn(20) > 0 {
				r.Val = ""
			}
			b.Recs = append(b.Recs, r)
			off += 1 + chance.Intn(5)/3
		}
		kept := deep(b)
		s, e := crate.Encode(b)
		switch c, f := crate.Decode(model(b)); {
		case !alike(b, kept) || crate.Good(b) != good(b):
			t.Fatal(b)
		case good(b) && (e != api.OK || s != model(b) || f != api.OK || !alike(b, c)):
			t.Fatal(b, s, e, c, f)
		case !good(b) && (e != api.ErrArg || s != "" || f != api.ErrForm || !alike(c, api.Batch{})):
			t.Fatal(b, s, e, c, f)
		}
		if good(b) {
			goods++
		}
	}
	if goods < 1000 {
		t.Error("hardly any is good:", goods)
	}
}

// The greatest batch goes into a frame with room to spare.
func TestSize(t *testing.T) {
	s, e := crate.Encode(full())
	if e != api.OK || len(s) >= api.MaxFrame {
		t.Error(len(s), e)
	}
	if _, e := frame.Put(s); e != api.OK {
		t.Error(e)
	}
}

// What is answered is new memory, and nothing that was handed in is written, its spare room neither.
func TestMemory(t *testing.T) {
	room := all(8, 70)
	list := room[:2]
	b, e := crate.Pack(list, 5, 1, 1, 1)
	if e != api.OK {
		t.Fatal(e)
	}
	if !reflect.DeepEqual(room, all(8, 70)) {
		t.Error("Pack writes what is handed in:", room)
	}
	list[0].Key = "other"
	if b.Recs[0].Key != "a" {
		t.Error("Pack keeps what is handed in")
	}
	b.Recs[1].Key = "third"
	_ = append(b.Recs, api.Rec{Key: "fourth"})
	if list[1].Key != "b" || room[2].Key != "c" {
		t.Error("what Pack answers is what was handed in")
	}
	c, _ := crate.Pack(list, 5, 1, 1, 1)
	b.Recs[0].Key = "fifth"
	if c.Recs[0].Key != "other" {
		t.Error("two answers of Pack are one")
	}

	d, _ := crate.Decode(plainBytes)
	d.Recs[0].Key = "other"
	if f, _ := crate.Decode(plainBytes); !alike(f, plain()) {
		t.Error("two answers of Decode are one")
	}

	whole := full()
	whole.Recs = whole.Recs[:3]
	if s, e := crate.Encode(whole); e != api.OK || s != model(whole) || !alike(api.Batch{Recs: whole.Recs[:8]}, api.Batch{Recs: full().Recs}) {
		t.Error("Encode writes, or reads, spare room:", s, e)
	}
}
