package bead_test

import (
	"math"
	"math/big"
	"regexp"
	"slices"
	"strconv"
	"strings"
	"testing"

	"heliograph/api"
	"heliograph/bead"
)

// numbers are such as stand at an edge: of 64 bits, of 32, of a digit more.
var numbers = map[int]string{
	0: "i0e", 1: "i1e", -1: "i-1e", 9: "i9e", 10: "i10e", -10: "i-10e", 100: "i100e",
	1<<31 - 1: "i2147483647e", -1 << 31: "i-2147483648e", 1 << 32: "i4294967296e", 1 << 40: "i1099511627776e",
	math.MaxInt64: "i9223372036854775807e", math.MinInt64: "i-9223372036854775808e",
	math.MaxInt64 - 1: "i9223372036854775806e", math.MinInt64 + 1: "i-9223372036854775807e",
}

// texts have letters and bytes that mean something elsewhere, and lengths at which a digit more begins.
var texts = map[string]string{
	"": "0:", "a": "1:a", "hi": "2:hi", ":": "1::", "e": "1:e", "i1e": "3:i1e", "2:hi": "4:2:hi", "le": "2:le",
	"\x00": "1:\x00", "\xff\xfe": "2:\xff\xfe", "\n": "1:\n", "\u00e4": "2:\xc3\xa4", "\u65e5": "3:\xe6\x97\xa5",
	strings.Repeat("x", 9): "9:xxxxxxxxx", strings.Repeat("e", 10): "10:eeeeeeeeee",
	strings.Repeat("7", 100): "100:" + strings.Repeat("7", 100), strings.Repeat(":", 70000): "70000:" + strings.Repeat(":", 70000),
}

// notNumbers are bytes at whose beginning no number's bytes stand.
var notNumbers = []string{
	"", "i", "e", "ie", "i-", "i-e", "i--1e", "i-0e", "i-00e", "i00e", "i01e", "i-01e", "i007e", "i1", "i-1", "1e", "1", "-1e", "0e",
	"i+1e", "i+0e", "i 1e", "i1 e", " i1e", "i1_0e", "i_1e", "i0x1e", "i0b1e", "i1.0e", "i1.e", "i1,e", "i1:e", "i1E", "I1e", "ii1ee", "i1i1e",
	"i\x00e", "i\n1e", "i\u0661e", "i\uff11e", "iae", "l", "le", "0:", "1:a", ":",
	"i9223372036854775808e", "i-9223372036854775809e", "i9223372036854775817e", "i18446744073709551615e", "i18446744073709551616e", "i18446744073709551617e",
	"i-18446744073709551616e", "i99999999999999999999e", "i-99999999999999999999e", "i09223372036854775807e",
	"i" + strings.Repeat("9", 5000) + "e", "i" + strings.Repeat("0", 5000) + "1e", "i" + strings.Repeat("1", 5000),
}

// notTexts are bytes at whose beginning no text's bytes stand, however long it may be.
var notTexts = []string{
	"", ":", "::", ":a", "a", "a:", "e", "i", "l", "le", "i1e", "1", "12", "1:", "2:a", "9:12345678", "10:123456789", "00:", "01:a", "001:a", "-1:", "-1:a", "-0:", "+0:", "+1:a",
	" 1:a", "1 :a", "1;a", "1a", "0x1:a", "1_0:0123456789", "1.0:a", "\u0661:a", "\x00:a",
	"99:a", "4294967297:a", "9223372036854775806:a", "9223372036854775807:a", "9223372036854775808:a", "18446744073709551616:", "18446744073709551617:a", "99999999999999999999:a",
	strings.Repeat("9", 5000) + ":a", strings.Repeat("0", 5000) + ":", strings.Repeat("1", 5000),
}

func TestWriteNumbers(t *testing.T) {
	for n, want := range numbers {
		if s := bead.Int(n); s != want {
			t.Errorf("Int(%d) = %q", n, s)
		}
	}
	if s := bead.Int(-5); s != "i-5e" {
		t.Errorf("Int(-5) = %q", s)
	}
}

func TestWriteTexts(t *testing.T) {
	for s, want := range texts {
		if got := bead.Text(s); got != want {
			t.Errorf("Text(%.20q) = %.20q", s, got)
		}
	}
}

func TestWriteLists(t *testing.T) {
	cases := []struct {
		want  string
		parts []string
	}{
		{"le", nil},
		{"le", []string{}},
		{"le", []string{""}},
		{"lae", []string{"", "a", ""}},
		{"llee", []string{bead.List()}},
		{"llleleelee", []string{bead.List(bead.List(), bead.List()), bead.List()}},
		{"li1e0:e", []string{bead.Int(1), bead.Text("")}},
		{"l1:e1:li-7ee", []string{bead.Text("e"), bead.Text("l"), bead.Int(-7)}},
		{"labce", []string{"a", "b", "c"}},
		{"lcbae", []string{"c", "b", "a"}},
	}
	for _, c := range cases {
		if s := bead.List(c.parts...); s != c.want {
			t.Errorf("List(%q) = %q", c.parts, s)
		}
	}
}

func TestListKeepsItsArguments(t *testing.T) {
	room := []string{"a", "b", "c", "d"}
	bead.List(room[:2]...)
	if !slices.Equal(room, []string{"a", "b", "c", "d"}) {
		t.Error(room)
	}
}

// behind is what may follow a thing: other things, halves of such, letters that would go on with a number or a text.
var behind = []string{"", "e", "ee", "i", "i5e", "l", "0", "9", ":", "-", "0:", "1:x", "x", "\x00", "\xff"}

func TestReadNumbers(t *testing.T) {
	for n, s := range numbers {
		for _, more := range behind {
			r := bead.New(s + more)
			if got := r.Int(); got != n {
				t.Errorf("Int of %q = %d", s+more, got)
			}
			isBehind(t, r, s, more)
		}
	}
}

func TestReadTexts(t *testing.T) {
	for s, written := range texts {
		for _, most := range []int{len(s), len(s) + 1, math.MaxInt} {
			for _, more := range behind {
				r := bead.New(written + more)
				if got := r.Text(most); got != s {
					t.Errorf("Text(%d) of %.20q = %.20q", most, written, got)
				}
				isBehind(t, r, written, more)
			}
		}
	}
}

// isBehind: a reader that took what was written stands just behind it, and isn't wrong.
func isBehind(t *testing.T, r *bead.Reader, written, more string) {
	t.Helper()
	want := api.OK
	if more != "" {
		want = api.ErrForm
	}
	if e := r.Done(); e != want {
		t.Errorf("behind %.20q, ahead of %q: Done %d", written, more, e)
	}
	if has := more != "" && more[0] != 'e'; r.More() != has {
		t.Errorf("behind %.20q, ahead of %q: More %t", written, more, !has)
	}
	if more == "i5e" && (r.Int() != 5 || r.Done() != api.OK) || more == "1:x" && (r.Text(1) != "x" || r.Done() != api.OK) {
		t.Errorf("behind %.20q: %q isn't read", written, more)
	}
}

func TestReadNoNumber(t *testing.T) {
	for _, s := range notNumbers {
		r := bead.New(s)
		if n := r.Int(); n != 0 {
			t.Errorf("Int of %.40q = %d", s, n)
		}
		isWrong(t, r, s)
	}
}

func TestReadNoText(t *testing.T) {
	for _, s := range notTexts {
		for _, most := range []int{math.MinInt, -1, 0, 1, 3, 1 << 14, math.MaxInt} {
			r := bead.New(s)
			if x := r.Text(most); x != "" {
				t.Errorf("Text(%d) of %.40q = %.40q", most, s, x)
			}
			isWrong(t, r, s)
		}
	}
}

func TestReadTextLongerThanAskedFor(t *testing.T) {
	for s, written := range texts {
		for _, most := range []int{len(s) - 1, len(s) / 2, -1, -len(s) - 1, math.MinInt} {
			if most >= len(s) {
				continue
			}
			r := bead.New(written)
			if x := r.Text(most); x != "" {
				t.Errorf("Text(%d) of %.20q = %.20q", most, written, x)
			}
			isWrong(t, r, written)
		}
	}
}

func TestReadBytesThatEndEarly(t *testing.T) {
	for _, s := range numbers {
		for i := range len(s) {
			r := bead.New(s[:i])
			if n := r.Int(); n != 0 {
				t.Errorf("Int of %q = %d", s[:i], n)
			}
			isWrong(t, r, s[:i])
		}
	}
	for s, written := range texts {
		for i := range min(len(written), 300) {
			r := bead.New(written[:i])
			if x := r.Text(len(s)); x != "" {
				t.Errorf("Text of %.20q = %.20q", written[:i], x)
			}
			isWrong(t, r, written[:i])
		}
	}
}

func TestOpenAndClose(t *testing.T) {
	for c := range 256 {
		s := string([]byte{byte(c)})
		r := bead.New(s)
		r.Open()
		if s == "l" {
			isBehind(t, r, s, "")
		} else {
			isWrong(t, r, s)
		}
		r = bead.New(s)
		r.Close()
		if s == "e" {
			isBehind(t, r, s, "")
		} else {
			isWrong(t, r, s)
		}
	}
	for _, s := range []string{"", "el", "i1e", "0:", " l", "1:l"} {
		r := bead.New(s)
		r.Open()
		isWrong(t, r, s)
	}
	for _, s := range []string{"", "le", "i1e", "0:", " e", "1:e"} {
		r := bead.New(s)
		r.Close()
		isWrong(t, r, s)
	}
}

// isWrong: a reader is wrong, and stays so, whatever it is asked for.
func isWrong(t *testing.T, r *bead.Reader, s string) {
	t.Helper()
	for range 2 {
		if r.Done() != api.ErrForm || r.More() {
			t.Errorf("%.40q: Done %d, More %t", s, r.Done(), r.More())
		}
		n, x := r.Int(), r.Text(math.MaxInt)
		r.Open()
		r.Close()
		if n != 0 || x != "" {
			t.Errorf("%.40q: a wrong reader answers %d, %.40q", s, n, x)
		}
	}
}

// Of a wrong reader nothing happens, though what it is asked for then stands at its place.
func TestWrongReaderStaysWrong(t *testing.T) {
	takeInt := func(r *bead.Reader) { r.Int() }
	takeText := func(r *bead.Reader) { r.Text(1) }
	cases := []struct {
		name  string
		fault func(*bead.Reader)
		bytes []string
	}{
		{"Int", takeInt, []string{"2:hi", "l", "le", "e", ""}},
		{"Text(1)", takeText, []string{"i7e", "2:hi", "l", "le", "e", ""}},
		{"Open", (*bead.Reader).Open, []string{"i7e", "2:hi", "e", ""}},
		{"Close", (*bead.Reader).Close, []string{"i7e", "2:hi", "l", "le", ""}},
	}
	for _, c := range cases {
		for _, s := range c.bytes {
			r := bead.New(s)
			c.fault(r)
			isWrong(t, r, c.name+" of "+s)
		}
	}
}

// A reader that goes wrong behind a right thing is as wrong as another one.
func TestWrongBehindRightThings(t *testing.T) {
	r := bead.New("li1ei02e2:hie")
	r.Open()
	if n := r.Int(); n != 1 || !r.More() {
		t.Error(n, r.More())
	}
	if n := r.Int(); n != 0 {
		t.Error(n)
	}
	isWrong(t, r, "li1ei02e2:hie")
}

func TestNilReader(t *testing.T) {
	var r *bead.Reader
	for range 2 {
		r.Open()
		r.Close()
		if n, s := r.Int(), r.Text(8); n != 0 || s != "" || r.More() || r.Done() != api.ErrNil {
			t.Error(n, s, r.More(), r.Done())
		}
	}
}

func TestNewIsNeverNil(t *testing.T) {
	if r := bead.New(""); r == nil || r.More() || r.Done() != api.OK {
		t.Error(r)
	}
}

func TestMore(t *testing.T) {
	for s, want := range map[string]bool{"": false, "e": false, "ee": false, "ei1e": false, "i1e": true, "0:": true, "le": true, "x": true, ":": true, "E": true, "\x00": true} {
		r := bead.New(s)
		if r.More() != want || r.More() != want {
			t.Errorf("More of %q = %t", s, !want)
		}
	}
}

func TestMoreEndsEveryList(t *testing.T) {
	for _, s := range []string{"li1ei2ei3ee", "le", "li1ei2e", "l", "li1ex", "li1e1:ae"} {
		r := bead.New(s)
		r.Open()
		sum, steps := 0, 0
		for r.More() {
			sum += r.Int()
			steps++
		}
		r.Close()
		right := s == "le" || s == "li1ei2ei3ee"
		if (r.Done() == api.OK) != right || steps > 3 || s == "li1ei2ei3ee" && sum != 6 {
			t.Error(s, sum, steps, r.Done())
		}
	}
}

// Done tells and changes nothing: the reader goes on behind it.
func TestDoneOnTheWay(t *testing.T) {
	r := bead.New("li5e2:hie")
	steps := []func(){r.Open, func() { r.Int() }, func() { r.Text(2) }}
	for i, step := range steps {
		if e := r.Done(); e != api.ErrForm {
			t.Error(i, e)
		}
		step()
	}
	if r.More() {
		t.Error("more")
	}
	r.Close()
	if r.Done() != api.OK || r.Done() != api.OK {
		t.Error(r.Done())
	}
	// At the end nothing is there any more: who asks on goes wrong.
	if r.Int(); r.Done() != api.ErrForm {
		t.Error(r.Done())
	}
}

// Two readers of the same bytes have nothing to do with one another.
func TestReadersStandAlone(t *testing.T) {
	a, b := bead.New("i1ei2e"), bead.New("i1ei2e")
	a.Int()
	a.Open()
	if n := b.Int(); n != 1 || b.Int() != 2 || b.Done() != api.OK || a.Done() != api.ErrForm {
		t.Error(n, a.Done(), b.Done())
	}
}

// wantInt: the number whose bytes s begins with, and how many these are (0: none), by another way than the reader's.
func wantInt(s string) (int, int) {
	written := regexp.MustCompile(`^i(0|-?[1-9][0-9]*)e`).FindString(s)
	if written == "" {
		return 0, 0
	}
	n, _ := new(big.Int).SetString(written[1:len(written)-1], 10)
	if !n.IsInt64() {
		return 0, 0
	}
	return int(n.Int64()), len(written)
}

// wantText: the text, of at most most bytes, whose bytes s begins with, and how many these are (0: none).
func wantText(s string, most int) (string, int) {
	head := regexp.MustCompile(`^(0|[1-9][0-9]*):`).FindString(s)
	if head == "" {
		return "", 0
	}
	size, _ := new(big.Int).SetString(head[:len(head)-1], 10)
	if size.Cmp(big.NewInt(int64(min(most, len(s)-len(head))))) > 0 {
		return "", 0
	}
	all := len(head) + int(size.Int64())
	return s[len(head):all], all
}

// words: all texts of at most most of these letters.
func words(letters string, most int) []string {
	list := []string{""}
	for from := 0; most > 0; most-- {
		to := len(list)
		for ; from < to; from++ {
			for _, c := range letters {
				list = append(list, list[from]+string(c))
			}
		}
	}
	return list
}

// Of all short bytes just those are taken that would have been written so.
func TestOneForm(t *testing.T) {
	for _, s := range words("ile:-+0129 ", 4) {
		checkInt(t, s)
		checkText(t, s)
	}
	for _, s := range words("019-", 5) {
		checkInt(t, "i"+s+"e")
		checkText(t, s+":aaaaaaaaaa")
	}
}

func checkInt(t *testing.T, s string) {
	t.Helper()
	want, size := wantInt(s)
	r := bead.New(s)
	n := r.Int()
	if n != want {
		t.Errorf("Int of %q = %d", s, n)
	}
	if size == 0 {
		isWrong(t, r, s)
		return
	}
	isBehind(t, r, s[:size], s[size:])
	if bead.Int(n) != s[:size] {
		t.Errorf("%d has two forms, %q", n, s[:size])
	}
}

func checkText(t *testing.T, s string) {
	t.Helper()
	for _, most := range []int{-1, 0, 1, 2, 10, math.MaxInt} {
		want, size := wantText(s, most)
		r := bead.New(s)
		x := r.Text(most)
		if x != want {
			t.Errorf("Text(%d) of %q = %q", most, s, x)
		}
		if size == 0 {
			isWrong(t, r, s)
			continue
		}
		isBehind(t, r, s[:size], s[size:])
		if bead.Text(x) != s[:size] {
			t.Errorf("%q has two forms, %q", x, s[:size])
		}
	}
}

// No thing begins with another one.
func TestNoThingBeginsWithAnother(t *testing.T) {
	things := []string{bead.List(), bead.List(bead.List()), bead.List(bead.Int(1)), bead.List(bead.Int(12)), bead.List(bead.Text("")), bead.List(bead.Text("e"))}
	for n := -1100; n <= 1100; n += 11 {
		things = append(things, bead.Int(n))
	}
	for n := range numbers {
		things = append(things, bead.Int(n))
	}
	for _, s := range words("1:e", 3) {
		things = append(things, bead.Text(s), bead.List(bead.Text(s)), bead.List(bead.Text(s), bead.Int(1)))
	}
	slices.Sort(things)
	things = slices.Compact(things)
	for i, a := range things {
		for j, b := range things {
			if i != j && strings.HasPrefix(a, b) {
				t.Errorf("%q begins with %q", a, b)
			}
		}
	}
}

// tree writes a thing, and answers how it is read again and held against what was written; a seed tells which thing.
func tree(seed uint64, depth int) (string, func(*testing.T, *bead.Reader)) {
	next := seed*6364136223846793005 + 1442695040888963407
	pick := next >> 33
	switch {
	case depth == 0 && pick%2 == 0, pick%5 == 0:
		n := int(next) >> (pick % 64)
		return bead.Int(n), func(t *testing.T, r *bead.Reader) {
			if got := r.Int(); got != n {
				t.Errorf("%d is read as %d", n, got)
			}
		}
	case depth == 0, pick%5 == 1:
		s := strings.Repeat(strconv.Itoa(int(pick))+":e", int(pick%7))
		return bead.Text(s), func(t *testing.T, r *bead.Reader) {
			if got := r.Text(len(s)); got != s {
				t.Errorf("%q is read as %q", s, got)
			}
		}
	}
	var parts []string
	var checks []func(*testing.T, *bead.Reader)
	for i := range pick % 4 {
		part, check := tree(next+i, depth-1)
		parts, checks = append(parts, part), append(checks, check)
	}
	return bead.List(parts...), func(t *testing.T, r *bead.Reader) {
		r.Open()
		for _, check := range checks {
			if !r.More() {
				t.Error("a list ends early")
			}
			check(t, r)
		}
		if r.More() {
			t.Error("a list has too much")
		}
		r.Close()
	}
}

// What was written is read as it was, things in things too, whatever stands behind it.
func TestWrittenIsRead(t *testing.T) {
	for seed := range uint64(3000) {
		s, check := tree(seed, 5)
		r := bead.New(s + "i42e")
		check(t, r)
		if n := r.Int(); n != 42 || r.Done() != api.OK {
			t.Fatalf("behind %q: %d, %d", s, n, r.Done())
		}
	}
}

// Bytes that one may hold for a long list are gone through once, not once for each thing.
func TestLongBytesEnd(t *testing.T) {
	s := "l" + strings.Repeat("i1e1:a", 1<<17) + "e"
	r := bead.New(s)
	r.Open()
	count := 0
	for r.More() {
		count += r.Int() + len(r.Text(1))
	}
	r.Close()
	if count != 1<<18 || r.Done() != api.OK {
		t.Error(count, r.Done())
	}
	r = bead.New(strings.Repeat("l", 1<<16) + strings.Repeat("e", 1<<16))
	for range 1 << 16 {
		r.Open()
	}
	for range 1 << 16 {
		r.Close()
	}
	if r.Done() != api.OK {
		t.Error(r.Done())
	}
}
