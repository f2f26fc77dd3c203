package tape_test

import (
	"math"
	"slices"
	"strconv"
	"strings"
	"testing"

	"heliograph/api"
	"heliograph/tape"
)

// files is what a tape should have, by names.
type files map[string]string

// ends are numbers at the ends of their type, of others, and about 0.
var ends = []int{math.MinInt, math.MinInt + 1, -1 << 32, math.MinInt32, -2, -1, 0, 1, 2, 255, math.MaxInt32, 1 << 32, math.MaxInt - 1, math.MaxInt}

// names are names that can be a file's, the shortest, the longest, and of any bytes.
func names() []string {
	return []string{"a", "\x00", "\xff", ".", "/", " ", "ab", "a\x00", "p1.0000000000000", "\u00e4\u65e5", strings.Repeat("n", 31), strings.Repeat("n", 32), strings.Repeat("\xff", 32)}
}

func noNames() []string {
	return []string{"", strings.Repeat("n", 33), strings.Repeat("n", 64), strings.Repeat("\u00e4", 17), strings.Repeat("n", 1<<20)}
}

func is(t *testing.T, what string, got, want api.Errno) {
	t.Helper()
	if got != want {
		t.Errorf("%s: %d, want %d", what, got, want)
	}
}

// isTape: a tape whose power is on has these files, and no others, and its room is less by their bytes.
func isTape(t *testing.T, d *tape.Tape, room int, want files) {
	t.Helper()
	var list []string
	for name, s := range want {
		list = append(list, name)
		room -= len(s)
		if got, e := d.Read(name); got != s || e != api.OK {
			t.Errorf("Read(%.40q) = %.40q, %d; want %.40q", name, got, e, s)
		}
	}
	slices.Sort(list)
	if got := d.Names(); !slices.Equal(got, list) {
		t.Errorf("Names() = %.200q, want %.200q", got, list)
	}
	if got := d.Left(); got != room {
		t.Errorf("Left() = %d, want %d", got, room)
	}
}

func isCount(t *testing.T, d *tape.Tape, down bool, acts, life int) {
	t.Helper()
	if d.Down() != down || d.Acts() != acts || d.Life() != life {
		t.Errorf("down %t, %d acts, life %d; want %t, %d, %d", d.Down(), d.Acts(), d.Life(), down, acts, life)
	}
}

// made is a tape of the room 100 with a file of safe bytes and others behind them, by two Appends and a Sync.
func made(t *testing.T, name, safe, others string) *tape.Tape {
	t.Helper()
	d := tape.New(100)
	for _, e := range []api.Errno{d.Append(name, safe), d.Sync(name), d.Append(name, others)} {
		is(t, "made", e, api.OK)
	}
	return d
}

// broken: the power goes and is back.
func broken(d *tape.Tape, fates ...int) {
	d.Off()
	d.On(fates)
}

func TestNew(t *testing.T) {
	for room, want := range map[int]int{
		math.MinInt: 0, math.MinInt32: 0, -1: 0, 0: 0, 1: 1, 2: 2, 1000: 1000, 1 << 12: 1 << 12, 1<<22 - 1: 1<<22 - 1, 1 << 22: 1 << 22,
		1<<22 + 1: 1 << 22, 1 << 31: 1 << 22, 1<<32 + 5: 1 << 22, math.MaxInt: 1 << 22,
	} {
		d := tape.New(room)
		isTape(t, d, want, nil)
		isCount(t, d, false, 0, 0)
	}
}

func TestNewHasNothingArmed(t *testing.T) {
	d := tape.New(1000)
	for i := range 1000 {
		is(t, "Append", d.Append("a", "x"), api.OK)
		isCount(t, d, false, i+1, 0)
	}
}

func TestTapesAreApart(t *testing.T) {
	a, b := tape.New(10), tape.New(10)
	is(t, "Append", a.Append("f", "abc"), api.OK)
	a.Arm(1)
	is(t, "Append", b.Append("g", "d"), api.OK)
	isTape(t, a, 10, files{"f": "abc"})
	isTape(t, b, 10, files{"g": "d"})
	a.Off()
	isCount(t, a, true, 1, 1)
	isCount(t, b, false, 1, 0)
}

func TestNil(t *testing.T) {
	var d *tape.Tape
	d.Off()
	d.On([]int{1, 2})
	d.Arm(1)
	for _, name := range append(noNames(), "a") {
		is(t, "Append", d.Append(name, "x"), api.ErrNil)
		is(t, "Sync", d.Sync(name), api.ErrNil)
		is(t, "Swap", d.Swap(name, name), api.ErrNil)
		is(t, "Cut", d.Cut(name, -1), api.ErrNil)
		is(t, "Drop", d.Drop(name), api.ErrNil)
		if s, e := d.Read(name); s != "" || e != api.ErrNil {
			t.Errorf("Read: %q, %d", s, e)
		}
	}
	if l := d.Names(); len(l) != 0 || d.Left() != 0 {
		t.Error(l, d.Left())
	}
	isCount(t, d, true, 0, 0)
}

func TestAppend(t *testing.T) {
	d := tape.New(1000)
	want, acts := files{}, 0
	for _, s := range []string{"", "a", "\x00\xff", "", strings.Repeat("b", 30)} {
		for _, name := range names() {
			is(t, "Append", d.Append(name, s), api.OK)
			want[name] += s
			acts++
			isTape(t, d, 1000, want)
			isCount(t, d, false, acts, 0)
		}
	}
}

func TestAppendToNoName(t *testing.T) {
	d := tape.New(10)
	for _, name := range noNames() {
		for _, s := range []string{"", "a", "12345678901"} {
			is(t, "Append", d.Append(name, s), api.ErrArg)
		}
	}
	isTape(t, d, 10, nil)
	isCount(t, d, false, 0, 0)
}

func TestAppendWithoutRoom(t *testing.T) {
	d := tape.New(10)
	is(t, "more than all", d.Append("a", "12345678901"), api.ErrFull)
	isTape(t, d, 10, nil)
	is(t, "some", d.Append("a", "1234"), api.OK)
	is(t, "one too many", d.Append("a", "1234567"), api.ErrFull)
	is(t, "one too many in another file", d.Append("b", "1234567"), api.ErrFull)
	is(t, "far too many", d.Append("a", strings.Repeat("x", 1<<23)), api.ErrFull)
	isTape(t, d, 10, files{"a": "1234"})
	is(t, "all that is left", d.Append("b", "123456"), api.OK)
	is(t, "one too many", d.Append("b", "7"), api.ErrFull)
	is(t, "nothing", d.Append("b", ""), api.OK)
	is(t, "nothing in another file", d.Append("c", ""), api.OK)
	isTape(t, d, 10, files{"a": "1234", "b": "123456", "c": ""})
	isCount(t, d, false, 4, 0)

	none := tape.New(0)
	is(t, "no room", none.Append("a", "x"), api.ErrFull)
	is(t, "no room, nothing", none.Append("a", ""), api.OK)
	isTape(t, none, 0, files{"a": ""})
}

// What is cut off, dropped, or has another file in its place leaves its room; what the power took, too.
func TestRoomComesBack(t *testing.T) {
	for name, free := range map[string]func(d *tape.Tape) api.Errno{
		"Cut":     func(d *tape.Tape) api.Errno { return d.Cut("b", 1) },
		"Drop":    func(d *tape.Tape) api.Errno { return d.Drop("b") },
		"Swap":    func(d *tape.Tape) api.Errno { return d.Swap("a", "b") },
		"a break": func(d *tape.Tape) api.Errno { broken(d, 0, 1); return api.OK },
	} {
		d := tape.New(10)
		d.Append("a", "1")
		d.Sync("a")
		d.Append("b", "123456789")
		is(t, name, d.Append("c", "x"), api.ErrFull)
		is(t, name, free(d), api.OK)
		left := 10
		for _, n := range d.Names() {
			s, _ := d.Read(n)
			left -= len(s)
		}
		if d.Left() != left || left < 8 {
			t.Errorf("%s: %d left, want %d", name, d.Left(), left)
		}
		is(t, name, d.Append("c", strings.Repeat("y", left+1)), api.ErrFull)
		is(t, name, d.Append("c", strings.Repeat("y", left)), api.OK)
		if d.Left() != 0 {
			t.Errorf("%s: %d left of all", name, d.Left())
		}
	}
}

func TestAppendOfManyFiles(t *testing.T) {
	d := tape.New(1000)
	want := files{}
	for i := range api.MaxFiles {
		name := "f" + strconv.Itoa(i)
		is(t, name, d.Append(name, "x"), api.OK)
		want[name] = "x"
	}
	is(t, "one more", d.Append("one more", "x"), api.ErrFull)
	is(t, "one more of nothing", d.Append("one more", ""), api.ErrFull)
	is(t, "one more without a name", d.Append("", ""), api.ErrArg)
	isTape(t, d, 1000, want)
	isCount(t, d, false, 256, 0)
	is(t, "one that is there", d.Append("f0", "y"), api.OK)
	is(t, "another name", d.Swap("f1", "one more"), api.OK)
	want["f0"] = "xy"
	want["one more"] = "x"
	delete(want, "f1")
	isTape(t, d, 1000, want)
	is(t, "one too many", d.Append("f1", "x"), api.ErrFull)
	is(t, "Drop", d.Drop("f2"), api.OK)
	is(t, "one in its place", d.Append("f1", "z"), api.OK)
	want["f1"] = "z"
	delete(want, "f2")
	isTape(t, d, 1000, want)
	is(t, "in place of another one", d.Swap("f3", "f4"), api.OK)
	is(t, "one in its place", d.Append("f2", ""), api.OK)
	is(t, "one too many", d.Append("f3", ""), api.ErrFull)
}

func TestReadOfAnyBytes(t *testing.T) {
	var b strings.Builder
	for i := range 256 {
		b.WriteByte(byte(i))
	}
	d := tape.New(1000)
	is(t, "Append", d.Append("a", b.String()), api.OK)
	isTape(t, d, 1000, files{"a": b.String()})
	for n := 256; n > 0; n -= 3 {
		is(t, "Cut", d.Cut("a", n), api.OK)
		isTape(t, d, 1000, files{"a": b.String()[:n]})
	}
}

func TestNoFile(t *testing.T) {
	d := made(t, "a", "safe", "x")
	for _, name := range append(noNames(), "b", "A", "a\x00", "aa") {
		is(t, "Sync", d.Sync(name), api.ErrNone)
		is(t, "Drop", d.Drop(name), api.ErrNone)
		for _, n := range ends {
			is(t, "Cut", d.Cut(name, n), api.ErrNone)
		}
		for _, to := range append(noNames(), "a", "c", name) {
			is(t, "Swap", d.Swap(name, to), api.ErrNone)
		}
		if s, e := d.Read(name); s != "" || e != api.ErrNone {
			t.Errorf("Read(%.40q) = %q, %d", name, s, e)
		}
	}
	isTape(t, d, 100, files{"a": "safex"})
	isCount(t, d, false, 3, 0)
}

func TestSwap(t *testing.T) {
	for _, to := range names() {
		d := tape.New(100)
		d.Append("from", "abc")
		d.Append("other", "xyz")
		is(t, "Swap", d.Swap("from", to), api.OK)
		isTape(t, d, 100, files{to: "abc", "other": "xyz"})
		is(t, "Swap again", d.Swap("from", to), api.ErrNone)
		is(t, "in place of another one", d.Swap("other", to), api.OK)
		isTape(t, d, 100, files{to: "xyz"})
		is(t, "in its own place", d.Swap(to, to), api.OK)
		isTape(t, d, 100, files{to: "xyz"})
		isCount(t, d, false, 5, 0)
		is(t, "more behind", d.Append(to, "123"), api.OK)
		is(t, "the old name", d.Append("from", "new"), api.OK)
		isTape(t, d, 100, files{to: "xyz123", "from": "new"})
	}
}

func TestSwapToNoName(t *testing.T) {
	d := made(t, "a", "safe", "x")
	for _, to := range noNames() {
		is(t, "Swap", d.Swap("a", to), api.ErrArg)
	}
	isTape(t, d, 100, files{"a": "safex"})
	isCount(t, d, false, 3, 0)
}

func TestCut(t *testing.T) {
	const s = "0123456789"
	for n := range len(s) + 1 {
		d := made(t, "a", s[:4], s[4:])
		d.Append("b", "other")
		is(t, "Cut", d.Cut("a", n), api.OK)
		isTape(t, d, 100, files{"a": s[:n], "b": "other"})
		isCount(t, d, false, 5, 0)
		is(t, "Cut beyond", d.Cut("a", n+1), api.ErrArg)
		is(t, "Append", d.Append("a", "xy"), api.OK)
		isTape(t, d, 100, files{"a": s[:n] + "xy", "b": "other"})
	}
}

func TestCutToNoLength(t *testing.T) {
	d := made(t, "a", "safe", "x")
	d.Append("empty", "")
	for _, n := range append([]int{6, 7, -5}, ends...) {
		if n < 0 || n > 5 {
			is(t, "Cut", d.Cut("a", n), api.ErrArg)
		}
		if n != 0 {
			is(t, "Cut of nothing", d.Cut("empty", n), api.ErrArg)
		}
	}
	isTape(t, d, 100, files{"a": "safex", "empty": ""})
	isCount(t, d, false, 4, 0)
	is(t, "Cut of nothing", d.Cut("empty", 0), api.OK)
}

func TestDrop(t *testing.T) {
	d := made(t, "a", "safe", "x")
	d.Append("b", "other")
	is(t, "Drop", d.Drop("a"), api.OK)
	isTape(t, d, 100, files{"b": "other"})
	is(t, "Drop again", d.Drop("a"), api.ErrNone)
	isCount(t, d, false, 5, 0)
	is(t, "Append", d.Append("a", "anew"), api.OK)
	isTape(t, d, 100, files{"a": "anew", "b": "other"})
	// The bytes that were safe were another file's.
	broken(d)
	isTape(t, d, 100, files{"a": "", "b": ""})
}

// What an error answers isn't counted, nor is what only tells.
func TestActsThatAreCounted(t *testing.T) {
	d := tape.New(10)
	for i, e := range []api.Errno{d.Append("a", "abc"), d.Sync("a"), d.Sync("a"), d.Cut("a", 3), d.Cut("a", 2), d.Swap("a", "b"), d.Swap("b", "b"), d.Append("b", ""), d.Drop("b")} {
		is(t, "act "+strconv.Itoa(i), e, api.OK)
	}
	isCount(t, d, false, 9, 0)
	d.Append("", "x")
	d.Append("a", "01234567890")
	d.Sync("a")
	d.Swap("a", "b")
	d.Cut("a", 0)
	d.Drop("a")
	d.Append("b", "x")
	isCount(t, d, false, 10, 0)
	d.Read("b")
	d.Read("a")
	d.Cut("b", 2)
	d.Swap("b", "")
	d.Names()
	d.Left()
	d.Arm(5)
	d.Arm(0)
	d.On(nil)
	isCount(t, d, false, 10, 0)
	d.Off()
	d.Append("b", "x")
	d.Drop("b")
	d.Sync("b")
	isCount(t, d, true, 10, 1)
	d.On(nil)
	isCount(t, d, false, 10, 1)
}

// With the power off each call that answers an error answers ErrDown ahead of all others; what only tells still does.
func TestPowerOff(t *testing.T) {
	d := made(t, "a", "safe", "x")
	d.Off()
	for _, name := range append(noNames(), "a", "b") {
		is(t, "Append", d.Append(name, ""), api.ErrDown)
		is(t, "Append", d.Append(name, strings.Repeat("x", 1000)), api.ErrDown)
		is(t, "Sync", d.Sync(name), api.ErrDown)
		is(t, "Swap", d.Swap(name, ""), api.ErrDown)
		is(t, "Cut", d.Cut(name, -1), api.ErrDown)
		is(t, "Cut", d.Cut(name, 0), api.ErrDown)
		is(t, "Drop", d.Drop(name), api.ErrDown)
		if s, e := d.Read(name); s != "" || e != api.ErrDown {
			t.Errorf("Read(%.40q) = %q, %d", name, s, e)
		}
	}
	if l := d.Names(); !slices.Equal(l, []string{"a"}) || d.Left() != 95 {
		t.Error(l, d.Left())
	}
	isCount(t, d, true, 3, 1)
	d.Off()
	isCount(t, d, true, 3, 1)
	d.On([]int{1})
	isTape(t, d, 100, files{"a": "safex"})
	isCount(t, d, false, 3, 1)
}

func TestLives(t *testing.T) {
	d := tape.New(10)
	for life := range 5 {
		isCount(t, d, false, life, life)
		d.On([]int{3}) // it is on
		isCount(t, d, false, life, life)
		if life%2 == 0 {
			d.Arm(1)
			is(t, "Append", d.Append("a", "x"), api.ErrDown)
		} else {
			d.Append("a", "x")
			d.Off()
		}
		isCount(t, d, true, life+1, life+1)
		d.On(nil)
	}
}

// acts are all acts, on a tape of made(a, safe, 123), with what is there when the power was back without and with a fate that leaves all.
func acts() map[string]struct {
	do          func(d *tape.Tape) api.Errno
	none, whole files
} {
	return map[string]struct {
		do          func(d *tape.Tape) api.Errno
		none, whole files
	}{
		"Append":           {func(d *tape.Tape) api.Errno { return d.Append("a", "45") }, files{"a": "safe"}, files{"a": "safe12345"}},
		"Append of a file": {func(d *tape.Tape) api.Errno { return d.Append("b", "xy") }, files{"a": "safe", "b": ""}, files{"a": "safe123", "b": "xy"}},
		"Append of none":   {func(d *tape.Tape) api.Errno { return d.Append("b", "") }, files{"a": "safe", "b": ""}, files{"a": "safe123", "b": ""}},
		"Sync":             {func(d *tape.Tape) api.Errno { return d.Sync("a") }, files{"a": "safe"}, files{"a": "safe123"}},
		"Swap":             {func(d *tape.Tape) api.Errno { return d.Swap("a", "b") }, files{"b": "safe"}, files{"b": "safe123"}},
		"Swap of itself":   {func(d *tape.Tape) api.Errno { return d.Swap("a", "a") }, files{"a": "safe"}, files{"a": "safe123"}},
		"Cut of safe ones": {func(d *tape.Tape) api.Errno { return d.Cut("a", 2) }, files{"a": "sa"}, files{"a": "sa"}},
		"Cut of others":    {func(d *tape.Tape) api.Errno { return d.Cut("a", 6) }, files{"a": "safe"}, files{"a": "safe12"}},
		"Drop":             {func(d *tape.Tape) api.Errno { return d.Drop("a") }, files{}, files{}},
	}
}

func TestPowerGoesInEachAct(t *testing.T) {
	for name, c := range acts() {
		for k, want := range []files{c.none, c.whole} {
			d := made(t, "a", "safe", "123")
			d.Arm(1)
			is(t, name, c.do(d), api.ErrDown)
			isCount(t, d, true, 4, 1)
			d.On([]int{-k}) // 0 leaves nothing, -1 all
			isCount(t, d, false, 4, 1)
			isTape(t, d, 100, want)
		}
	}
}

// A tape whose power is off tells of the files as the act left them.
func TestToldWhenPowerWentInAnAct(t *testing.T) {
	for name, c := range acts() {
		d := made(t, "a", "safe", "123")
		d.Arm(1)
		is(t, name, c.do(d), api.ErrDown)
		left, list := 100, []string{}
		for n, s := range c.whole {
			left -= len(s)
			list = append(list, n)
		}
		slices.Sort(list)
		if got := d.Names(); !slices.Equal(got, list) || d.Left() != left {
			t.Errorf("%s: %q, %d left; want %q, %d", name, got, d.Left(), list, left)
		}
	}
}

// The same acts with the power on: they are done, and what was safe still is.
func TestPowerGoesBehindEachAct(t *testing.T) {
	for name, c := range acts() {
		d := made(t, "a", "safe", "123")
		is(t, name, c.do(d), api.OK)
		isCount(t, d, false, 4, 0)
		isTape(t, d, 100, c.whole)
		broken(d)
		want := c.none
		if name == "Sync" {
			want = c.whole
		}
		isTape(t, d, 100, want)
	}
}

func TestArm(t *testing.T) {
	for n := 1; n <= 6; n++ {
		d := made(t, "a", "", "")
		d.Arm(n)
		for i := 1; i < n; i++ {
			is(t, "ahead", d.Append("a", "x"), api.OK)
			// Neither an error nor what only tells is an act.
			is(t, "no act", d.Sync("b"), api.ErrNone)
			is(t, "no act", d.Append("", ""), api.ErrArg)
			is(t, "no act", d.Append("a", strings.Repeat("x", 100)), api.ErrFull)
			is(t, "no act", d.Cut("a", -1), api.ErrArg)
			isTape(t, d, 100, files{"a": strings.Repeat("x", i)})
			isCount(t, d, false, 3+i, 0)
		}
		is(t, "the n-th", d.Append("a", "y"), api.ErrDown)
		isCount(t, d, true, 3+n, 1)
		d.On([]int{-1})
		isTape(t, d, 100, files{"a": strings.Repeat("x", n-1) + "y"})
		// It goes once.
		for range 10 {
			is(t, "behind", d.Append("a", "z"), api.OK)
		}
		isCount(t, d, false, 13+n, 1)
	}
}

func TestArmOfNone(t *testing.T) {
	for _, n := range []int{0, -1, -2, math.MinInt, math.MaxInt, 1 << 32} {
		d := tape.New(100)
		d.Arm(1)
		d.Arm(n)
		for range 20 {
			is(t, "Append", d.Append("a", "x"), api.OK)
		}
		isCount(t, d, false, 20, 0)
	}
}

// A new Arm takes the place of the one ahead of it, be it sooner or later.
func TestArmAnew(t *testing.T) {
	d := tape.New(100)
	d.Arm(2)
	is(t, "one", d.Append("a", "1"), api.OK)
	d.Arm(3)
	is(t, "two", d.Append("a", "2"), api.OK)
	is(t, "three", d.Append("a", "3"), api.OK)
	d.Arm(1)
	is(t, "four", d.Append("a", "4"), api.ErrDown)
	isCount(t, d, true, 4, 1)
}

// When the power goes nothing is armed any more, be it on or off.
func TestOffDisarms(t *testing.T) {
	d := tape.New(100)
	d.Arm(1)
	d.Off()
	isCount(t, d, true, 0, 1)
	d.On(nil)
	is(t, "behind Off", d.Append("a", "1"), api.OK)
	d.Off()
	d.Arm(1)
	d.Off()
	d.On(nil)
	is(t, "behind Off twice", d.Append("a", "1"), api.OK)
	isCount(t, d, false, 2, 2)
}

// What is armed with the power off stays so: it goes in an act to come.
func TestArmWithPowerOff(t *testing.T) {
	d := tape.New(100)
	d.Off()
	d.Arm(2)
	is(t, "off", d.Append("a", "x"), api.ErrDown)
	is(t, "off", d.Append("a", "x"), api.ErrDown)
	is(t, "off", d.Append("a", "x"), api.ErrDown)
	isCount(t, d, true, 0, 1)
	d.On(nil)
	is(t, "one", d.Append("a", "x"), api.OK)
	is(t, "two", d.Append("a", "x"), api.ErrDown)
	isCount(t, d, true, 2, 2)
}

// On with the power on does nothing: neither is anything safe, nor does what is armed go.
func TestOnWithPowerOn(t *testing.T) {
	d := made(t, "a", "safe", "123")
	d.Arm(2)
	d.On([]int{1})
	isTape(t, d, 100, files{"a": "safe123"})
	is(t, "one", d.Append("a", "4"), api.OK)
	is(t, "two", d.Append("a", "5"), api.ErrDown)
	d.On(nil)
	isTape(t, d, 100, files{"a": "safe"})
}

func TestExample(t *testing.T) {
	d := tape.New(100)
	is(t, "Append", d.Append("f", "abc"), api.OK)
	is(t, "Sync", d.Sync("f"), api.OK)
	is(t, "Append", d.Append("f", "de"), api.OK)
	broken(d, 1)
	isTape(t, d, 100, files{"f": "abcd"})
}

func TestFateOfOneFile(t *testing.T) {
	for _, c := range []struct{ fate, left int }{
		{0, 0}, {1, 1}, {2, 2}, {3, 3}, {4, 0}, {5, 1}, {7, 3}, {8, 0}, {1 << 32, 0}, {1<<32 + 3, 3}, {math.MaxInt, 3}, {math.MaxInt - 1, 2},
		{-1, 3}, {-2, 2}, {-3, 1}, {-4, 0}, {-5, 3}, {-8, 0}, {math.MinInt, 0}, {math.MinInt + 1, 1},
	} {
		for _, safe := range []string{"", "safe"} {
			d := made(t, "a", safe, "123")
			broken(d, c.fate)
			isTape(t, d, 100, files{"a": safe + "123"[:c.left]})
		}
	}
}

// Without fates just what is safe is left.
func TestNoFates(t *testing.T) {
	for _, fates := range [][]int{nil, {}} {
		d := made(t, "a", "safe", "123")
		d.Append("b", "xyz")
		d.Off()
		d.On(fates)
		isTape(t, d, 100, files{"a": "safe", "b": ""})
		isCount(t, d, false, 4, 1)
	}
}

// unsafeFiles: c and e are safe, a, b, d and f have bytes that aren't; they are made in none's order.
func unsafeFiles() *tape.Tape {
	d := tape.New(1000)
	for _, name := range []string{"e", "b", "f", "a", "c", "d"} {
		d.Append(name, "SAFE")
		d.Sync(name)
		if name != "e" && name != "c" {
			d.Append(name, "12345")
		}
	}
	return d
}

// Fates are dealt by rising names to those files that have bytes that aren't safe, from the first one on when they are used up.
func TestFatesOfFiles(t *testing.T) {
	for _, c := range []struct{ fates, left []int }{
		{nil, []int{0, 0, 0, 0}},
		{[]int{2}, []int{2, 2, 2, 2}},
		{[]int{1, 2}, []int{1, 2, 1, 2}},
		{[]int{5, 0, 3}, []int{5, 0, 3, 5}},
		{[]int{1, 2, 3, 4}, []int{1, 2, 3, 4}},
		{[]int{4, 3, 2, 1, 5, 5}, []int{4, 3, 2, 1}},
		{[]int{-1, 6, 7, -7}, []int{5, 0, 1, 5}},
	} {
		d := unsafeFiles()
		fates := slices.Clone(c.fates)
		broken(d, fates...)
		want := files{"c": "SAFE", "e": "SAFE"}
		for i, name := range []string{"a", "b", "d", "f"} {
			want[name] = "SAFE" + "12345"[:c.left[i]]
		}
		isTape(t, d, 1000, want)
		if !slices.Equal(fates, c.fates) {
			t.Error("fates changed:", fates)
		}
	}
}

// The k of a fate is each file's own.
func TestFatesOfFilesOfSomeLengths(t *testing.T) {
	d := tape.New(100)
	d.Append("a", "1")
	d.Append("b", "12")
	d.Append("c", "")
	d.Append("d", "123456")
	broken(d, 6)
	isTape(t, d, 100, files{"a": "", "b": "", "c": "", "d": "123456"})
}

// When the power is back all that is left is safe, whatever fates come.
func TestAllIsSafeBehindOn(t *testing.T) {
	d := made(t, "a", "safe", "123")
	d.Append("b", "xyz")
	broken(d, 2)
	want := files{"a": "safe12", "b": "xy"}
	for _, fates := range [][]int{nil, {0}, {1, -1}, {7}} {
		broken(d, fates...)
		isTape(t, d, 100, want)
	}
	is(t, "Append", d.Append("a", "XYZ"), api.OK)
	broken(d, 1)
	want["a"] += "X"
	isTape(t, d, 100, want)
	isCount(t, d, false, 5, 6)
}

// Wherever a file is cut, those of its safe bytes that are left stay safe, and no others come to be.
func TestCutLeavesSafeBytesSafe(t *testing.T) {
	const s = "safe123"
	for n := range len(s) + 1 {
		for fate := range 4 {
			d := made(t, "a", s[:4], s[4:])
			is(t, "Cut", d.Cut("a", n), api.OK)
			is(t, "Append", d.Append("a", "xyz"), api.OK)
			whole := s[:n] + "xyz"
			safe := min(n, 4)
			broken(d, fate)
			left := safe + fate%(len(whole)-safe+1)
			isTape(t, d, 100, files{"a": whole[:left]})
		}
	}
}

// A file takes along how many of its bytes are safe, wherever it goes.
func TestSwapTakesSafeBytesAlong(t *testing.T) {
	d := made(t, "a", "safe", "123")
	d.Append("b", "longer than that")
	d.Sync("b")
	is(t, "Swap", d.Swap("a", "b"), api.OK)
	is(t, "Append", d.Append("a", "new"), api.OK)
	broken(d, 1)
	isTape(t, d, 100, files{"a": "n", "b": "safe1"})

	d = made(t, "a", "", "123")
	d.Append("b", "safe")
	d.Sync("b")
	is(t, "Swap", d.Swap("a", "b"), api.OK)
	broken(d)
	isTape(t, d, 100, files{"b": ""})

	d = made(t, "a", "safe", "")
	is(t, "Swap", d.Swap("a", "b"), api.OK)
	broken(d)
	isTape(t, d, 100, files{"b": "safe"})
}

// A Sync is one file's: the bytes of the others are as they were.
func TestSyncOfOneFile(t *testing.T) {
	d := tape.New(100)
	d.Append("a", "123")
	d.Append("b", "123")
	is(t, "Sync", d.Sync("b"), api.OK)
	broken(d)
	isTape(t, d, 100, files{"a": "", "b": "123"})
}

// Names and what is read are new memory: what is done to the list, or to the file, is nothing to them.
func TestAnswersAreNew(t *testing.T) {
	d := made(t, "b", "safe", "123")
	d.Append("a", "x")
	l := d.Names()
	l[0] = "changed"
	_ = append(l[:1], "changed")
	s, _ := d.Read("b")
	d.Cut("b", 2)
	d.Append("b", "XXXXX")
	if s != "safe123" {
		t.Errorf("%q", s)
	}
	isTape(t, d, 100, files{"a": "x", "b": "saXXXXX"})
}

// A file in a whole tape's room, by small Appends, and many files at once.
func TestGreatTape(t *testing.T) {
	d := tape.New(api.MaxTape)
	piece := strings.Repeat("0123456789abcdef", 16)
	for range api.MaxTape / len(piece) {
		is(t, "Append", d.Append("a", piece), api.OK)
	}
	is(t, "one more", d.Append("a", "x"), api.ErrFull)
	if d.Left() != 0 {
		t.Error(d.Left())
	}
	isTape(t, d, api.MaxTape, files{"a": strings.Repeat(piece, api.MaxTape/len(piece))})
	broken(d, 12345)
	isTape(t, d, api.MaxTape, files{"a": strings.Repeat(piece, api.MaxTape/len(piece))[:12345]})
}

// model is a tape told another way: files by rising names, their safe bytes apart from the others.
type model struct {
	room, armed, acts, life int
	down                    bool
	files                   []part
}

type part struct{ name, safe, others string }

func (m *model) at(name string) (int, bool) {
	return slices.BinarySearchFunc(m.files, name, func(p part, name string) int { return strings.Compare(p.name, name) })
}

func (m *model) left() int {
	n := m.room
	for _, p := range m.files {
		n -= len(p.safe + p.others)
	}
	return n
}

// done counts an act; undo is what the power undoes that goes in it.
func (m *model) done(undo func()) api.Errno {
	m.acts++
	m.armed--
	if m.armed != 0 {
		return api.OK
	}
	undo()
	m.off()
	return api.ErrDown
}

func (m *model) off() {
	m.armed = 0
	if !m.down {
		m.down, m.life = true, m.life+1
	}
}

func (m *model) append(name, s string) api.Errno {
	at, ok := m.at(name)
	switch {
	case m.down:
		return api.ErrDown
	case len(name) == 0 || len(name) > 32:
		return api.ErrArg
	case !ok && len(m.files) >= 256 || len(s) > m.left():
		return api.ErrFull
	case !ok:
		m.files = slices.Insert(m.files, at, part{name: name})
	}
	m.files[at].others += s
	return m.done(func() {})
}

func (m *model) sync(name string) api.Errno {
	at, ok := m.at(name)
	switch {
	case m.down:
		return api.ErrDown
	case !ok:
		return api.ErrNone
	}
	old := m.files[at]
	m.files[at] = part{name, old.safe + old.others, ""}
	return m.done(func() { m.files[at] = old })
}

func (m *model) swap(from, to string) api.Errno {
	at, ok := m.at(from)
	switch {
	case m.down:
		return api.ErrDown
	case !ok:
		return api.ErrNone
	case len(to) == 0 || len(to) > 32:
		return api.ErrArg
	}
	p := m.files[at]
	p.name = to
	m.files = slices.Delete(m.files, at, at+1)
	at, ok = m.at(to)
	if ok {
		m.files = slices.Delete(m.files, at, at+1)
	}
	m.files = slices.Insert(m.files, at, p)
	return m.done(func() {})
}

func (m *model) cut(name string, n int) api.Errno {
	at, ok := m.at(name)
	switch {
	case m.down:
		return api.ErrDown
	case !ok:
		return api.ErrNone
	case n < 0 || n > len(m.files[at].safe+m.files[at].others):
		return api.ErrArg
	}
	p := &m.files[at]
	p.others = p.others[:max(n-len(p.safe), 0)]
	p.safe = p.safe[:min(n, len(p.safe))]
	return m.done(func() {})
}

func (m *model) drop(name string) api.Errno {
	at, ok := m.at(name)
	switch {
	case m.down:
		return api.ErrDown
	case !ok:
		return api.ErrNone
	}
	m.files = slices.Delete(m.files, at, at+1)
	return m.done(func() {})
}

func (m *model) on(fates []int) {
	if !m.down {
		return
	}
	m.down = false
	i := 0
	for at := range m.files {
		p := &m.files[at]
		if p.others == "" {
			continue
		}
		n := 0
		if len(fates) > 0 {
			n = fates[i%len(fates)]
		}
		// Counted up or down by whole turns, since the fates of these steps are small.
		for n < 0 {
			n += len(p.others) + 1
		}
		for n > len(p.others) {
			n -= len(p.others) + 1
		}
		*p = part{p.name, p.safe + p.others[:n], ""}
		i++
	}
}

// same: the tape tells what the model does.
func (m *model) same(t *testing.T, d *tape.Tape) {
	t.Helper()
	want := files{}
	for _, p := range m.files {
		want[p.name] = p.safe + p.others
	}
	if !m.down {
		isTape(t, d, m.room, want)
	}
	if len(d.Names()) != len(want) || d.Left() != m.left() {
		t.Errorf("%q, %d left; want %q, %d", d.Names(), d.Left(), m.files, m.left())
	}
	isCount(t, d, m.down, m.acts, m.life)
}

// dice answer numbers that look like none's, the same ones for the same seed.
type dice uint64

func (x *dice) below(n int) int {
	*x = *x*6364136223846793005 + 1442695040888963407
	return int(uint64(*x) >> 33 % uint64(n))
}

// step does one step to both, and answers what each said.
func step(x *dice, d *tape.Tape, m *model) (got, want api.Errno) {
	list := []string{"a", "b", "c", "d", "", strings.Repeat("n", 32), strings.Repeat("n", 33)}
	name, other := list[x.below(len(list))], list[x.below(len(list))]
	n := x.below(14) - 2
	switch x.below(16) {
	case 0, 1, 2, 3, 4:
		s := "0123456789abcdef"[:x.below(17)]
		return d.Append(name, s), m.append(name, s)
	case 5, 6:
		return d.Sync(name), m.sync(name)
	case 7, 8:
		return d.Swap(name, other), m.swap(name, other)
	case 9, 10:
		return d.Cut(name, n), m.cut(name, n)
	case 11:
		return d.Drop(name), m.drop(name)
	case 12:
		d.Arm(n)
		m.armed = max(n, 0)
	case 13:
		d.Off()
		m.off()
	default:
		fates := []int{n, x.below(9) - 20, x.below(40)}[:x.below(4)]
		d.On(fates)
		m.on(fates)
	}
	return api.OK, api.OK
}

// Whatever the steps, the tape is the model's.
func TestAnySteps(t *testing.T) {
	for seed := range 400 {
		x := dice(seed)
		room := x.below(120)
		d, m := tape.New(room), &model{room: room}
		for i := range 150 {
			got, want := step(&x, d, m)
			is(t, "seed "+strconv.Itoa(seed)+", step "+strconv.Itoa(i), got, want)
			m.same(t, d)
			if t.Failed() {
				return
			}
		}
	}
}

// What is safe stays (P5.4): of each file there is left, wherever the power goes, what was synced, and of the rest a beginning.
func TestSafeStays(t *testing.T) {
	for n := 1; n <= 21; n++ {
		for fate := range 30 {
			d := tape.New(1000)
			d.Arm(n)
			synced, whole := "", ""
			for i := range 10 {
				if d.Down() {
					break
				}
				s := strconv.Itoa(i) + "-"
				d.Append("a", s) // also when the power goes in it
				whole += s
				if d.Sync("a") == api.OK {
					synced = whole
				}
			}
			d.Off()
			d.On([]int{fate})
			got, e := d.Read("a")
			if e != api.OK || !strings.HasPrefix(got, synced) || !strings.HasPrefix(whole, got) {
				t.Errorf("act %d, fate %d: %q, %d; synced %q of %q", n, fate, got, e, synced, whole)
			}
			if want := synced + whole[len(synced):][:fate%(len(whole)-len(synced)+1)]; got != want {
				t.Errorf("act %d, fate %d: %q, want %q", n, fate, got, want)
			}
		}
	}
}
