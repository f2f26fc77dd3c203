package weed_test

import (
	"fmt"
	"math"
	"math/rand"
	"reflect"
	"slices"
	"strings"
	"testing"

	"heliograph/api"
	"heliograph/crate"
	"heliograph/weed"
)

const far = 1 << 40 // the greatest part of a size, time, horizon, offset

// ends are numbers at the ends of their type, and at those of what the chapter names.
var ends = []int{math.MinInt, math.MinInt + 1, -far - 1, -far, math.MinInt32, -2, -1, 0, 1, 2, 3, 4096, math.MaxInt32, 1 << 32, far - 1, far, far + 1, 1 << 53, math.MaxInt - 1, math.MaxInt}

// rec is a record that is told as a=1, or as a alone, if it is Gone; what has no key is =1.
func rec(off int, s string) api.Rec {
	key, val, is := strings.Cut(s, "=")
	return api.Rec{Off: off, Key: key, Val: val, Gone: !is}
}

// batch is a batch of records at the offsets from base on.
func batch(base, time int, list ...string) api.Batch {
	b := api.Batch{Base: base, Count: len(list), Prod: 1, Seq: base, Time: time}
	for i, s := range list {
		b.Recs = append(b.Recs, rec(base+i, s))
	}
	return b
}

// tell writes records as they are told to rec, with their offsets.
func tell(list []api.Rec) string {
	var words []string
	for _, r := range list {
		word := fmt.Sprint(r.Off, ":", r.Key)
		if !r.Gone {
			word += "=" + r.Val
		}
		words = append(words, word)
	}
	return strings.Join(words, " ")
}

// left is what Thin left, a dot behind each batch.
func left(list []api.Batch) string {
	s := ""
	for _, b := range list {
		s += tell(b.Recs) + "."
	}
	return s
}

// deep is a copy that shares nothing.
func deep(list []api.Batch) []api.Batch {
	var copied []api.Batch
	for _, b := range list {
		b.Recs = append([]api.Rec{}, b.Recs...)
		copied = append(copied, b)
	}
	return copied
}

// alike: whether two lists have the same batches.
func alike(a, b []api.Batch) bool { return slices.EqualFunc(a, b, crate.Same) }

func TestExample(t *testing.T) {
	list := []api.Batch{batch(0, 0, "a=1", "a=2", "b")}
	got := weed.Thin(list, 3, 10, 5)
	want := []api.Batch{{Count: 3, Prod: 1, Recs: []api.Rec{{Off: 1, Key: "a", Val: "2"}}}}
	if !alike(got, want) {
		t.Error(got)
	}
	if s := tell(weed.Fold(list, 3)); s != "1:a=2" {
		t.Error(s)
	}
}

// old: Old as the chapter tells it: each number of segments is tried, from the least on.
func old(ends, bytes []int, high, keep int) int {
	if len(ends) != len(bytes) || len(ends) > 4096 || len(ends) == 0 {
		return 0
	}
	for _, n := range bytes {
		if n < 0 || n > far {
			return 0
		}
	}
	over := 0
	for over < len(bytes)-1 {
		sum := 0
		for _, k := range bytes[over:] {
			sum += k
		}
		if sum <= keep {
			break
		}
		over++
	}
	for n, end := range ends[:over] {
		if end > high {
			return n
		}
	}
	return over
}

func TestOld(t *testing.T) {
	offs, bytes := []int{5, 9, 12, 20}, []int{10, 20, 30, 40}
	for _, c := range []struct{ high, keep, want int }{
		{20, 101, 0}, {20, 100, 0}, {20, 99, 1}, {20, 90, 1}, {20, 89, 2}, {20, 70, 2}, {20, 69, 3}, {20, 40, 3},
		{20, 39, 3}, {20, 0, 3}, {20, -1, 3}, {20, math.MinInt, 3}, {20, math.MaxInt, 0}, {20, far, 0}, // the last one never goes
		{math.MaxInt, 0, 3}, {12, 0, 3}, {11, 0, 2}, {9, 0, 2}, {8, 0, 1}, {5, 0, 1}, {4, 0, 0}, {0, 0, 0}, {-1, -1, 0}, {math.MinInt, 0, 0},
		{12, 99, 1}, {5, 99, 1}, {4, 99, 0}, // fewer than are safe
	} {
		if n := weed.Old(offs, bytes, c.high, c.keep); n != c.want {
			t.Error(c, n)
		}
	}
}

func TestOldOfOne(t *testing.T) {
	for _, high := range ends {
		for _, keep := range ends {
			if n := weed.Old([]int{3}, []int{9}, high, keep); n != 0 {
				t.Error(high, keep, n)
			}
		}
	}
}

func TestOldOfNone(t *testing.T) {
	for _, high := range ends {
		for _, keep := range ends {
			if weed.Old(nil, nil, high, keep) != 0 || weed.Old([]int{}, nil, high, keep) != 0 || weed.Old(nil, []int{}, high, keep) != 0 {
				t.Error(high, keep)
			}
		}
	}
}

func TestOldOfOtherLengths(t *testing.T) {
	list := []int{1, 2, 3, 4}
	for n := range 5 {
		for k := range 5 {
			got, want := weed.Old(list[:n], list[:k], 9, 0), 0
			if n == k && n > 0 {
				want = n - 1
			}
			if got != want {
				t.Error(n, k, got)
			}
		}
	}
	if weed.Old(make([]int, 3), make([]int, 5000), 9, -1) != 0 || weed.Old(make([]int, 5000), make([]int, 3), 9, -1) != 0 {
		t.Error("many")
	}
}

func TestOldOfMany(t *testing.T) {
	for n, want := range map[int]int{4095: 4094, 4096: 4095, 4097: 0, 4098: 0, 100000: 0} {
		if got := weed.Old(make([]int, n), make([]int, n), 0, -1); got != want {
			t.Error(n, got)
		}
	}
	// The greatest sums are exact: a byte less than there are is one segment more.
	offs, bytes := make([]int, 4096), slices.Repeat([]int{far}, 4096)
	for keep, want := range map[int]int{4096 * far: 0, 4096*far - 1: 1, 4095 * far: 1, 4095*far - 1: 2, 2 * far: 4094, 2*far - 1: 4095, 0: 4095} {
		if got := weed.Old(offs, bytes, 0, keep); got != want {
			t.Error(keep, got)
		}
	}
}

func TestOldOfNoPart(t *testing.T) {
	for _, n := range ends {
		for at := range 4 {
			bytes := []int{1, 1, 1, 1}
			bytes[at] = n
			want := 0
			if 0 <= n && n <= far {
				want = 3
			}
			if got := weed.Old(make([]int, 4), bytes, 0, -1); got != want {
				t.Error(n, at, got)
			}
		}
	}
}

// Ends that don't rise: none behind one that isn't safe goes.
func TestOldOfUnsafeEnds(t *testing.T) {
	for want, offs := range [][]int{{8, 1, 2, 3}, {1, 8, 2, 3}, {7, 7, 8, 3}, {7, -9, 7, 8}, {0, 0, 0, 0}} {
		want = min(want, 3)
		if got := weed.Old(offs, []int{1, 1, 1, 1}, 7, 0); got != want {
			t.Error(offs, got)
		}
	}
	if got := weed.Old([]int{math.MaxInt, 0}, []int{1, 1}, math.MaxInt, 0); got != 1 {
		t.Error(got)
	}
	if got := weed.Old([]int{math.MinInt, 0}, []int{1, 1}, math.MinInt, 0); got != 1 {
		t.Error(got)
	}
}

func TestOldByChance(t *testing.T) {
	chance := rand.New(rand.NewSource(8))
	some := 0
	for range 50000 {
		var offs, bytes []int
		end := 0
		for range chance.Intn(9) {
			end += chance.Intn(4)
			offs, bytes = append(offs, end), append(bytes, chance.Intn(5))
		}
		if len(offs) > 0 && chance.Intn(10) == 0 {
			offs[chance.Intn(len(offs))] = ends[chance.Intn(len(ends))]
		}
		if len(offs) > 0 && chance.Intn(20) == 0 {
			bytes[chance.Intn(len(bytes))] = ends[chance.Intn(len(ends))]
		}
		if chance.Intn(20) == 0 {
			bytes = append(bytes, 1)
		}
		high, keep := chance.Intn(end+3)-1, chance.Intn(22)-2
		if chance.Intn(10) == 0 {
			high, keep = ends[chance.Intn(len(ends))], ends[chance.Intn(len(ends))]
		}
		got, want := weed.Old(offs, bytes, high, keep), old(offs, bytes, high, keep)
		if got != want {
			t.Fatal(offs, bytes, high, keep, got, want)
		}
		if got > 0 {
			some++
		}
	}
	if some < 10000 {
		t.Error("hardly any goes:", some)
	}
}

func TestOldLeavesWhatIsHandedIn(t *testing.T) {
	offs, bytes := []int{1, 2, 3, 4, 5}, []int{6, 7, 8, 9, 10}
	if n := weed.Old(offs[:3], bytes[:3], 9, 0); n != 2 {
		t.Error(n)
	}
	if !slices.Equal(offs, []int{1, 2, 3, 4, 5}) || !slices.Equal(bytes, []int{6, 7, 8, 9, 10}) {
		t.Error(offs, bytes)
	}
}

// thin: Thin as the chapter's words have it: each record is held against all others.
func thin(list []api.Batch, high, now, horizon int) []api.Batch {
	if now < 0 || now > far || horizon < 0 || horizon > far {
		return deep(list)
	}
	useless := func(b api.Batch, r api.Rec) bool {
		if r.Key == "" || r.Off >= high {
			return false
		}
		for _, c := range list {
			for _, other := range c.Recs {
				if other.Key == r.Key && other.Off > r.Off && other.Off < high {
					return true
				}
			}
		}
		return r.Gone && b.Time <= now-horizon
	}
	var thinned []api.Batch
	for _, b := range list {
		var stay []api.Rec
		for _, r := range b.Recs {
			if !useless(b, r) {
				stay = append(stay, r)
			}
		}
		b.Recs = stay
		thinned = append(thinned, b)
	}
	return thinned
}

// log is a log whose last batch has two keys that come but once.
func log() []api.Batch {
	return []api.Batch{
		batch(0, 5, "a=1", "=x", "b=2"),
		batch(3, 6, "a=3", "b"),
		batch(5, 9, "a", "=y"),
		batch(7, 9, "c=4", "d"),
	}
}

func TestThin(t *testing.T) {
	whole := left(log())
	for _, c := range []struct {
		high, now, horizon int
		want               string
	}{
		{9, 8, 5, "1:=x.4:b.5:a 6:=y.7:c=4 8:d."},
		{9, 10, 5, "1:=x.4:b.5:a 6:=y.7:c=4 8:d."}, // the time 6 isn't long ago
		{9, 11, 5, "1:=x..5:a 6:=y.7:c=4 8:d."},    // it is
		{9, 13, 5, "1:=x..5:a 6:=y.7:c=4 8:d."},
		{9, 14, 5, "1:=x..6:=y.7:c=4."}, // nor is 9 any more
		{far, 14, 5, "1:=x..6:=y.7:c=4."},
		{math.MaxInt, far, 0, "1:=x..6:=y.7:c=4."},
		{9, far, far, "1:=x.4:b.5:a 6:=y.7:c=4 8:d."},
		{9, 9, 0, "1:=x..6:=y.7:c=4."},
		{9, 8, 0, "1:=x..5:a 6:=y.7:c=4 8:d."},
		{8, 99, 5, "1:=x..6:=y.7:c=4 8:d."}, // what is at the watermark isn't safe
		{6, 99, 5, "1:=x..6:=y.7:c=4 8:d."},
		{5, 99, 5, "1:=x.3:a=3.5:a 6:=y.7:c=4 8:d."}, // nor makes it anything useless
		{5, 8, 5, "1:=x.3:a=3 4:b.5:a 6:=y.7:c=4 8:d."},
		{4, 99, 5, "1:=x 2:b=2.3:a=3 4:b.5:a 6:=y.7:c=4 8:d."},
		{3, 99, 0, whole}, {1, 99, 0, whole}, {0, 99, 0, whole}, {-1, 99, 0, whole}, {math.MinInt, 99, 0, whole},
	} {
		list := weed.Thin(log(), c.high, c.now, c.horizon)
		if got := left(list); got != c.want {
			t.Error(c, got)
		}
		for i, b := range list {
			b.Recs = log()[i].Recs
			if !crate.Same(b, log()[i]) {
				t.Error("other fields:", c, list[i])
			}
		}
	}
}

// From 0 to 2^40 each number may be; with others all stay, though all of a log is useless.
func TestThinAtOtherTimes(t *testing.T) {
	list := []api.Batch{batch(0, -far, "a=1", "a=2", "a")}
	for _, now := range ends {
		for _, horizon := range ends {
			want := 0
			if now < 0 || now > far || horizon < 0 || horizon > far {
				want = 3
			}
			got := weed.Thin(list, 3, now, horizon)
			if len(got) != 1 || len(got[0].Recs) != want || want == 3 && !alike(got, list) {
				t.Error(now, horizon, got)
			}
		}
	}
}

// Raw times: a time is long ago up to now - horizon, and from there on it isn't.
func TestThinOfTimes(t *testing.T) {
	for _, time := range ends {
		for _, now := range []int{0, 1, 7, far - 1, far} {
			for _, horizon := range []int{0, 1, 7, far - 1, far} {
				want := "0:a."
				if time <= now-horizon {
					want = "."
				}
				if got := left(weed.Thin([]api.Batch{batch(0, time, "a")}, 1, now, horizon)); got != want {
					t.Error(time, now, horizon, got)
				}
			}
		}
	}
	for _, time := range []int{-far - 1, -far, -far + 1} {
		want := "0:a."
		if time <= -far {
			want = "."
		}
		if got := left(weed.Thin([]api.Batch{batch(0, time, "a")}, 1, 0, far)); got != want {
			t.Error(time, got)
		}
	}
}

// Each Gone hangs on its own batch's time, not on its neighbours'.
func TestThinOfGone(t *testing.T) {
	list := []api.Batch{batch(0, 1, "a", "b"), batch(2, 9, "c", "d"), batch(4, 3, "e", "f")}
	for now, want := range map[int]string{0: "0:a 1:b.2:c 3:d.4:e 5:f.", 1: ".2:c 3:d.4:e 5:f.", 3: ".2:c 3:d..", 8: ".2:c 3:d..", 9: "..."} {
		if got := left(weed.Thin(list, 6, now, 0)); got != want {
			t.Error(now, got)
		}
	}
	// A Gone that isn't long ago makes those ahead of it useless, and a later one makes it so.
	list = []api.Batch{batch(0, 9, "a=1", "a", "a=2", "a", "b=1")}
	if got := left(weed.Thin(list, 5, 9, 1)); got != "3:a 4:b=1." {
		t.Error(got)
	}
}

// A record without a key stays, Gone or not.
func TestThinWithoutKeys(t *testing.T) {
	list := []api.Batch{batch(0, 0, "=1", "", "=1", ""), batch(4, 0, "", "=2")}
	if got := weed.Thin(list, far, far, 0); !alike(got, list) {
		t.Error(got)
	}
	if got := weed.Fold(list, far); len(got) != 0 {
		t.Error(got)
	}
}

// Keys are bytes: what is nearly the same is another one.
func TestKeys(t *testing.T) {
	keys := []string{"k", "K", "k\x00", "\x00", "\x00\x00", " ", "kk", "\xff", "\xc3", "\u00e4", "a\u0308", strings.Repeat("k", 16), strings.Repeat("k", 15), strings.Repeat("k", 1000), "=", "0"}
	var list []api.Batch
	for i, key := range keys {
		list = append(list, api.Batch{Base: i, Count: 1, Recs: []api.Rec{{Off: i, Key: key, Val: "v"}}})
	}
	if got := weed.Thin(list, far, far, 0); !alike(got, list) {
		t.Error(got)
	}
	folded := weed.Fold(list, far)
	if len(folded) != len(keys) {
		t.Error(folded)
	}
	for i, r := range folded {
		if keys[r.Off] != r.Key || i > 0 && folded[i-1].Key >= r.Key {
			t.Error(i, r)
		}
	}
}

func TestOfNone(t *testing.T) {
	for _, n := range ends {
		for _, list := range [][]api.Batch{nil, {}} {
			if len(weed.Thin(list, n, 9, 0)) != 0 || len(weed.Thin(list, 9, n, 0)) != 0 || len(weed.Thin(list, 9, 9, n)) != 0 || len(weed.Fold(list, n)) != 0 {
				t.Error(n)
			}
		}
		zero := []api.Batch{{}, {Recs: []api.Rec{}}, {Recs: []api.Rec{{}}}}
		if !alike(weed.Thin(zero, n, 9, 0), zero) || len(weed.Fold(zero, n)) != 0 {
			t.Error(n)
		}
	}
}

// Batches that are none, and in any order, are thinned by the same words.
func TestThinOfRawBatches(t *testing.T) {
	list := []api.Batch{
		{Base: -7, Count: math.MinInt, Prod: -1, Seq: math.MaxInt, Time: 3, Recs: []api.Rec{{Off: 9, Key: "a"}, {Off: -3, Key: "a"}, {Off: 9, Key: "b", Val: "x", Gone: true}}},
		{Base: math.MaxInt, Time: math.MinInt, Recs: []api.Rec{{Off: math.MinInt, Key: "c"}, {Off: math.MaxInt, Key: "c"}, {Off: math.MaxInt - 1, Key: "c"}}},
		{Recs: []api.Rec{{Off: 4, Key: "a"}, {Off: 9, Key: "a", Val: "2"}, {Off: 9, Key: "", Gone: true}}},
	}
	want := deep(list)
	want[0].Recs = want[0].Recs[:1]
	want[1].Recs = want[1].Recs[1:]
	want[2].Recs = want[2].Recs[1:]
	if got := weed.Thin(list, math.MaxInt, 3, 0); !alike(got, want) {
		t.Error(got)
	}
	if got := tell(weed.Fold(list, math.MaxInt)); got != fmt.Sprint("9:a=2 ", math.MaxInt-1, ":c=") {
		t.Error(got)
	}
}

// fold: Fold as the chapter's words have it: for each key all is gone through.
func fold(list []api.Batch, upto int) []api.Rec {
	keys := map[string]bool{}
	for _, b := range list {
		for _, r := range b.Recs {
			keys[r.Key] = true
		}
	}
	delete(keys, "")
	var folded []api.Rec
	for key := range keys {
		var last *api.Rec
		for _, b := range list {
			for i, r := range b.Recs {
				if r.Key == key && r.Off < upto && (last == nil || r.Off >= last.Off) {
					last = &b.Recs[i]
				}
			}
		}
		if last != nil && !last.Gone {
			folded = append(folded, *last)
		}
	}
	slices.SortFunc(folded, func(a, b api.Rec) int { return strings.Compare(a.Key, b.Key) })
	return folded
}

func TestFold(t *testing.T) {
	for upto, want := range map[int]string{
		math.MinInt: "", -1: "", 0: "", 1: "0:a=1", 2: "0:a=1", 3: "0:a=1 2:b=2", 4: "3:a=3 2:b=2", 5: "3:a=3", 6: "", 7: "", 8: "7:c=4", 9: "7:c=4", far: "7:c=4", math.MaxInt: "7:c=4",
	} {
		if got := tell(weed.Fold(log(), upto)); got != want {
			t.Error(upto, got)
		}
	}
}

// The greatest offset holds, wherever it stands in the list; of several the last one.
func TestFoldOfRawBatches(t *testing.T) {
	for _, c := range []struct {
		list []api.Batch
		want string
	}{
		{[]api.Batch{batch(5, 0, "a=5"), batch(0, 0, "a=0")}, "5:a=5"},
		{[]api.Batch{batch(5, 0, "a=5"), batch(5, 0, "a=6")}, "5:a=6"},
		{[]api.Batch{batch(5, 0, "a=6"), batch(5, 0, "a=5")}, "5:a=5"},
		{[]api.Batch{batch(5, 0, "a=5"), batch(5, 0, "a")}, ""},
		{[]api.Batch{batch(5, 0, "a"), batch(5, 0, "a=5")}, "5:a=5"},
		{[]api.Batch{batch(5, 0, "a"), batch(4, 0, "a=4")}, ""},
		{[]api.Batch{batch(-9, 0, "a=1"), batch(math.MinInt, 0, "a=2", "b=3")}, fmt.Sprint("-9:a=1 ", math.MinInt+1, ":b=3")},
		{[]api.Batch{{Recs: []api.Rec{rec(5, "a=1"), rec(3, "b=2"), rec(5, "a=3"), rec(2, "b=4")}}}, "5:a=3 3:b=2"},
		{[]api.Batch{{Recs: []api.Rec{{Off: 1, Key: "a", Val: "x", Gone: true}}}}, ""},
	} {
		if got := tell(weed.Fold(c.list, 9)); got != c.want {
			t.Error(c.list, got)
		}
	}
}

// Of many keys all are told, by rising keys, whichever way they came.
func TestFoldOfManyKeys(t *testing.T) {
	chance := rand.New(rand.NewSource(3))
	var list []api.Batch
	for i, n := range chance.Perm(3000) {
		list = append(list, batch(i, 0, fmt.Sprint(n, "=", n)))
	}
	for range 3 {
		got := weed.Fold(list, far)
		if len(got) != 3000 || !slices.IsSortedFunc(got, func(a, b api.Rec) int { return strings.Compare(a.Key, b.Key) }) {
			t.Fatal(len(got))
		}
		for _, r := range got {
			if r.Key != r.Val {
				t.Error(r)
			}
		}
	}
}

// some is a log by chance, some of its records cleaned away, of few keys.
func some(chance *rand.Rand) []api.Batch {
	var list []api.Batch
	off := chance.Intn(3)
	for range chance.Intn(6) {
		b := api.Batch{Base: off, Count: 1 + chance.Intn(4), Prod: chance.Intn(3), Seq: chance.Intn(9), Time: chance.Intn(6)}
		for i := range b.Count {
			r := api.Rec{Off: off + i, Key: []string{"", "a", "b", "c"}[chance.Intn(4)]}
			if r.Gone = chance.Intn(3) == 0; !r.Gone {
				r.Val = fmt.Sprint(chance.Intn(99))
			}
			if chance.Intn(5) > 0 {
				b.Recs = append(b.Recs, r)
			}
		}
		off += b.Count
		list = append(list, b)
	}
	return list
}

func TestOfLogsByChance(t *testing.T) {
	chance := rand.New(rand.NewSource(88))
	gone := 0
	for range 20000 {
		list := some(chance)
		kept := deep(list)
		high, now, horizon := chance.Intn(24), chance.Intn(9), chance.Intn(5)
		got := weed.Thin(list, high, now, horizon)
		if want := thin(list, high, now, horizon); !alike(got, want) {
			t.Fatal(list, high, now, horizon, got, want)
		}
		// Nothing that is known from the watermark on is another.
		for _, upto := range []int{high, high + 1, high + 2, high + chance.Intn(24), far, math.MaxInt} {
			if a, b := weed.Fold(list, upto), weed.Fold(got, upto); !slices.Equal(a, b) || !slices.Equal(a, fold(list, upto)) {
				t.Fatal(list, high, now, horizon, upto, a, b)
			}
		}
		if again := weed.Thin(got, high, now, horizon); !alike(again, got) {
			t.Fatal("goes later:", list, high, now, horizon, got, again)
		}
		for i, b := range got {
			if !crate.Good(b) {
				t.Fatal("no batch any more:", list, b)
			}
			gone += len(list[i].Recs) - len(b.Recs)
		}
		if !alike(list, kept) {
			t.Fatal("changed:", kept, list)
		}
	}
	if gone < 20000 {
		t.Error("hardly any goes:", gone)
	}
}

// Records and batches in any order, of which many stand at one offset.
func TestOfRawListsByChance(t *testing.T) {
	chance := rand.New(rand.NewSource(8888))
	number := func() int {
		if chance.Intn(10) == 0 {
			return ends[chance.Intn(len(ends))]
		}
		return chance.Intn(8)
	}
	for range 20000 {
		var list []api.Batch
		for range chance.Intn(5) {
			b := api.Batch{Base: number(), Count: number(), Prod: number(), Seq: number(), Time: number()}
			for range chance.Intn(12) {
				b.Recs = append(b.Recs, api.Rec{Off: number(), Key: []string{"", "a", "b"}[chance.Intn(3)], Val: fmt.Sprint(chance.Intn(9)), Gone: chance.Intn(3) == 0})
			}
			list = append(list, b)
		}
		high, now, horizon := number(), number(), number()
		got := weed.Thin(list, high, now, horizon)
		if want := thin(list, high, now, horizon); !alike(got, want) {
			t.Fatal(list, high, now, horizon, got, want)
		}
		if again := weed.Thin(got, high, now, horizon); !alike(again, got) {
			t.Fatal("goes later:", list, high, now, horizon, got, again)
		}
		if a, b := weed.Fold(list, high), fold(list, high); !slices.Equal(a, b) {
			t.Fatal(list, high, a, b)
		}
	}
}

// What is handed in isn't written, its spare room neither, and no list of an answer is one of it, or of another answer.
func TestMemory(t *testing.T) {
	for _, now := range []int{9, -1} { // thinned, and not
		whole := log()
		for i := range whole {
			whole[i].Recs = append(whole[i].Recs, rec(77, "spare=room"))[:len(whole[i].Recs)]
		}
		kept := deep(whole)
		list := whole[:3]
		got, other := weed.Thin(list, 7, now, 0), weed.Thin(list, 7, now, 0)
		want := deep(other)
		for i := range got {
			for k := range got[i].Recs {
				got[i].Recs[k] = rec(99, "other")
			}
			_ = append(got[i].Recs, rec(98, "other"), rec(97, "other"), rec(96, "other"))
			got[i] = api.Batch{}
		}
		_ = append(got, api.Batch{Base: 95})
		if !alike(other, want) {
			t.Error("two answers are one:", other)
		}
		if !alike(whole, kept) {
			t.Error("what is handed in is written:", whole)
		}
		for _, b := range whole {
			if spare := b.Recs[:len(b.Recs)+1][len(b.Recs)]; spare != rec(77, "spare=room") {
				t.Error("its spare room is written:", spare)
			}
		}
	}
}

// The lists of one answer are memory of their own, though those handed in are one.
func TestMemoryOfOneList(t *testing.T) {
	recs := []api.Rec{rec(0, "a=1"), rec(1, "a=2"), rec(2, "b=3"), rec(3, "=4")}
	for _, now := range []int{9, -1} {
		list := []api.Batch{{Recs: recs}, {Recs: recs}, {Recs: recs[1:3]}}
		got := weed.Thin(list, 9, now, 0)
		want := thin(list, 9, now, 0)
		for i := range got {
			if !crate.Same(got[i], want[i]) {
				t.Error(now, i, got[i])
			}
			for k := range got[i].Recs {
				got[i].Recs[k] = api.Rec{Key: "other"}
			}
			_ = append(got[i].Recs, api.Rec{Key: "other"})
		}
		if tell(recs) != "0:a=1 1:a=2 2:b=3 3:=4" {
			t.Error(now, recs)
		}
	}
}

func TestMemoryOfFold(t *testing.T) {
	list := log()
	got, other := weed.Fold(list, 4), weed.Fold(list, 4)
	for i := range got {
		got[i] = rec(99, "other")
	}
	_ = append(got, rec(98, "other"))
	if tell(other) != "3:a=3 2:b=2" || !reflect.DeepEqual(list, log()) {
		t.Error(other, list)
	}
}
