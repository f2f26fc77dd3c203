package frame_test

import (
	"encoding/binary"
	"hash/crc32"
	"math"
	"slices"
	"strings"
	"testing"

	"heliograph/api"
	"heliograph/frame"
)

// known are checks that others have told, not reckoned here.
var known = map[string]uint32{
	"":               0,
	"a":              0xe8b7be43,
	"abc":            0x352441c2,
	"123456789":      0xcbf43926,
	"\x00":           0xd202ef8d,
	"\xff":           0xff000000,
	"\x00\x00":       0x41d912ff,
	"\xff\xff":       0xffff0000,
	"message digest": 0x20159d7f,
	"The quick brown fox jumps over the lazy dog": 0x414fa339,
	"\x00\x00\x00\x00":         0x2144df1c,
	"\xff\xff\xff\xff":         0xffffffff,
	strings.Repeat("\x00", 32): 0x190a55ad,
	strings.Repeat("\xff", 32): 0xff6cab0b,
}

// noise: n bytes that look like none's, the same ones for the same seed.
func noise(seed uint64, n int) string {
	var b strings.Builder
	for range n {
		seed = seed*6364136223846793005 + 1442695040888963407
		b.WriteByte(byte(seed >> 56))
	}
	return b.String()
}

// texts have every length at which a length's byte begins anew, the least and the greatest, and bytes that look like a frame's.
func texts() []string {
	list := []string{"", "a", "\x00", "\xff", "hi", "\x00\x00\x00\x00", strings.Repeat("\x00", 8), strings.Repeat("\xff", 8), "123456789", "\u00e4\u65e5"}
	for _, n := range []int{3, 7, 8, 9, 127, 128, 255, 256, 257, 4095, 4096, 1<<14 - 1, 1 << 14} {
		list = append(list, noise(uint64(n), n), strings.Repeat("\x00", n))
	}
	inner := built("a") + built("")
	return append(list, inner, built(inner), inner[:5])
}

// low: a number's four bytes, the lowest first.
func low(n uint32) string { return string(binary.LittleEndian.AppendUint32(nil, n)) }

// built: a frame, by another way than Put's.
func built(body string) string {
	return low(uint32(len(body))) + low(crc32.ChecksumIEEE([]byte(body))) + body
}

func put(t *testing.T, body string) string {
	t.Helper()
	s, e := frame.Put(body)
	if e != api.OK {
		t.Fatalf("Put of %d bytes: %d", len(body), e)
	}
	return s
}

// isNext: Next answers the error with nothing beside it, or, if there is none, the text and the place behind.
func isNext(t *testing.T, s string, at int, body string, behind int, e api.Errno) {
	t.Helper()
	gotBody, gotBehind, got := frame.Next(s, at)
	if gotBody != body || gotBehind != behind || got != e {
		t.Errorf("Next(%.40q, %d) = %.40q, %d, %d; want %.40q, %d, %d", s, at, gotBody, gotBehind, got, body, behind, e)
	}
}

func isScan(t *testing.T, s string, bodies []string, size int) {
	t.Helper()
	got, n := frame.Scan(s)
	if !slices.Equal(got, bodies) || n != size {
		t.Errorf("Scan(%.40q) = %.80q, %d; want %.80q, %d", s, got, n, bodies, size)
	}
}

func TestSumOfKnownTexts(t *testing.T) {
	for s, want := range known {
		if got := frame.Sum(s); got != want {
			t.Errorf("Sum(%.20q) = %08x, want %08x", s, got, want)
		}
	}
}

func TestSumOfAllShortTexts(t *testing.T) {
	for a := range 256 {
		for b := range 256 {
			s := string([]byte{byte(a), byte(b)})
			if frame.Sum(s) != crc32.ChecksumIEEE([]byte(s)) {
				t.Fatalf("Sum(%q) = %08x", s, frame.Sum(s))
			}
		}
	}
	for n := range 600 {
		s := noise(uint64(n), n)
		if frame.Sum(s) != crc32.ChecksumIEEE([]byte(s)) {
			t.Fatalf("Sum of %d bytes = %08x", n, frame.Sum(s))
		}
	}
}

// byHand: a check as the chapter tells it, bit by bit.
func byHand(s string) uint32 {
	register := uint32(0xffffffff)
	for i := 0; i < len(s); i++ {
		for bit := 0; bit < 8; bit++ {
			other := uint32(s[i])>>bit&1 != register&1
			register >>= 1
			if other {
				register ^= 0xedb88320
			}
		}
	}
	return register ^ 0xffffffff
}

func TestSumByHand(t *testing.T) {
	for _, s := range texts() {
		if frame.Sum(s) != byHand(s) {
			t.Errorf("Sum(%.20q) = %08x, by hand %08x", s, frame.Sum(s), byHand(s))
		}
	}
}

// A text longer than a frame's has a check too.
func TestSumOfLongTexts(t *testing.T) {
	for _, n := range []int{1<<14 + 1, 1 << 16, 1<<20 + 3} {
		s := noise(7, n)
		if frame.Sum(s) != crc32.ChecksumIEEE([]byte(s)) {
			t.Errorf("Sum of %d bytes = %08x", n, frame.Sum(s))
		}
	}
}

func TestSumOfTextAndItsSum(t *testing.T) {
	for _, s := range append(texts(), noise(1, 1<<17)) {
		if got := frame.Sum(s + low(frame.Sum(s))); got != 0x2144df1c {
			t.Errorf("%.20q with its check: %08x", s, got)
		}
	}
}

func TestPut(t *testing.T) {
	for body, want := range map[string]string{
		"":                         "\x00\x00\x00\x00\x00\x00\x00\x00",
		"a":                        "\x01\x00\x00\x00\x43\xbe\xb7\xe8a",
		"123456789":                "\x09\x00\x00\x00\x26\x39\xf4\xcb123456789",
		strings.Repeat("\xff", 32): "\x20\x00\x00\x00\x0b\xab\x6c\xff" + strings.Repeat("\xff", 32),
	} {
		if s := put(t, body); s != want {
			t.Errorf("Put(%.20q) = %.40q", body, s)
		}
	}
	for _, body := range texts() {
		if s := put(t, body); s != built(body) {
			t.Errorf("Put(%.20q) = %.40q", body, s)
		}
	}
}

func TestPutAtTheLimit(t *testing.T) {
	for n := api.MaxFrame - 2; n <= api.MaxFrame; n++ {
		body := noise(3, n)
		s := put(t, body)
		if s != built(body) {
			t.Errorf("%d bytes: %.20q", n, s)
		}
		isNext(t, s, 0, body, n+8, api.OK)
	}
	for _, n := range []int{api.MaxFrame + 1, api.MaxFrame + 2, 1 << 15, 1 << 16, 1<<16 + 1, 1 << 20} {
		if s, e := frame.Put(noise(3, n)); s != "" || e != api.ErrLong {
			t.Errorf("%d bytes: %.20q, %d", n, s, e)
		}
	}
}

func TestNextAtAnyPlace(t *testing.T) {
	for _, ahead := range []string{"", "x", "\x00\x00\x00\x00", built("a"), built("a") + "half", noise(9, 1000)} {
		for _, body := range texts() {
			for _, behind := range []string{"", "x", built("b"), strings.Repeat("\xff", 20)} {
				s := put(t, body)
				isNext(t, ahead+s+behind, len(ahead), body, len(ahead)+len(s), api.OK)
			}
		}
	}
}

func TestNextAtNoPlace(t *testing.T) {
	for _, s := range []string{"", "a", "1234567", built(""), built("a"), built("a") + built("b"), noise(2, 100)} {
		for _, at := range []int{-1, -2, -8, -len(s) - 1, math.MinInt, math.MinInt + 1, -1 << 31, -1 << 32, len(s) + 1, len(s) + 8, 1 << 31, 1 << 32, math.MaxInt - 8, math.MaxInt - 1, math.MaxInt} {
			isNext(t, s, at, "", 0, api.ErrArg)
		}
		// At the end there is a place, with nothing there.
		isNext(t, s, len(s), "", 0, api.ErrShort)
	}
}

// Fewer than 8 bytes tell no length, whichever bytes they are.
func TestNextOfFewBytes(t *testing.T) {
	for n := range 8 {
		for _, c := range []string{"\x00", "\x01", "\xff"} {
			s := strings.Repeat(c, n)
			isNext(t, s, 0, "", 0, api.ErrShort)
			isNext(t, built("ahead")+s, 13, "", 0, api.ErrShort)
		}
	}
}

func TestNextOfGreatLengths(t *testing.T) {
	long := noise(5, 1<<17)
	for _, size := range []uint32{api.MaxFrame + 1, api.MaxFrame + 2, 1<<15 - 1, 1 << 15, 1 << 16, 1<<16 + 1, 1 << 24, 1 << 24 / 2, 1<<31 - 1, 1 << 31, 1<<31 + 1, 1<<32 - 8, 1<<32 - 1} {
		sum := frame.Sum(long[:min(int(size), len(long))])
		for _, s := range []string{long, long[:1], ""} {
			isNext(t, low(size)+low(sum)+s, 0, "", 0, api.ErrLong)
			isNext(t, "xyz"+low(size)+low(sum)+s, 3, "", 0, api.ErrLong)
		}
	}
	// A length at the limit isn't too long, though less is there.
	isNext(t, low(api.MaxFrame)+low(0), 0, "", 0, api.ErrShort)
	isNext(t, low(api.MaxFrame)+low(0)+long[:api.MaxFrame-1], 0, "", 0, api.ErrShort)
	isNext(t, low(api.MaxFrame)+low(0)+long[:api.MaxFrame], 0, "", 0, api.ErrSum)
}

func TestNextOfCutFrames(t *testing.T) {
	for _, body := range texts() {
		s := put(t, body)
		step := 1 + len(s)/200
		for i := 0; i < len(s); i += step {
			isNext(t, s[:i], 0, "", 0, api.ErrShort)
			isNext(t, "ahead"+s[:i], 5, "", 0, api.ErrShort)
			isScan(t, s[:i], nil, 0)
		}
		isNext(t, s[:len(s)-1], 0, "", 0, api.ErrShort)
	}
}

func TestNextOfWrongChecks(t *testing.T) {
	for _, body := range texts() {
		s := put(t, body)
		for i := 4; i < 8; i++ {
			for bit := range 8 {
				isNext(t, changed(s, i, 1<<bit), 0, "", 0, api.ErrSum)
			}
		}
		isNext(t, s[:4]+low(frame.Sum(body)+1)+body, 0, "", 0, api.ErrSum)
		isNext(t, s[:4]+low(^frame.Sum(body))+body, 0, "", 0, api.ErrSum)
	}
	// The check is the text's alone, not that of what stands ahead or behind.
	isNext(t, low(1)+low(frame.Sum("ab"))+"ab", 0, "", 0, api.ErrSum)
	isNext(t, low(2)+low(frame.Sum("a"))+"ab", 0, "", 0, api.ErrSum)
	isNext(t, low(0)+low(frame.Sum("a"))+"a", 0, "", 0, api.ErrSum)
	isNext(t, strings.Repeat("\xff", 4)+strings.Repeat("\x00", 4), 0, "", 0, api.ErrLong)
	isNext(t, strings.Repeat("\x00", 4)+strings.Repeat("\xff", 4), 0, "", 0, api.ErrSum)
}

// changed: a text with some bytes, from a place on, changed by these bits.
func changed(s string, at int, bits ...byte) string {
	b := []byte(s)
	for i, x := range bits {
		b[at+i] ^= x
	}
	return string(b)
}

// A change of up to four bytes that stand together in a text is told, and the frames ahead of it are found as they were.
func TestChangedTextsAreTold(t *testing.T) {
	ahead := put(t, "ahead")
	for _, body := range []string{"abcd", "0123456789", strings.Repeat("\x00", 20), noise(4, 300), noise(6, api.MaxFrame)} {
		s := put(t, body)
		for k := range 400 {
			bits := noise(uint64(k), 4)
			if k < 32 {
				bits = low(1 << k)
			}
			if bits == "\x00\x00\x00\x00" {
				continue
			}
			at := 8 + k*7919%(len(body)-3)
			other := changed(s, at, []byte(bits)...)
			isNext(t, other, 0, "", 0, api.ErrSum)
			isScan(t, ahead+other+ahead, []string{"ahead"}, len(ahead))
		}
	}
}

// Of a short text every change of one and of two bytes is told, each bit's and all together.
func TestEveryChangeOfTwoBytesIsTold(t *testing.T) {
	s := put(t, "text")
	for at := 8; at < len(s); at++ {
		for a := 1; a < 256; a++ {
			isNext(t, changed(s, at, byte(a)), 0, "", 0, api.ErrSum)
			for b := 1; b < 256 && at+1 < len(s); b++ {
				isNext(t, changed(s, at, byte(a), byte(b)), 0, "", 0, api.ErrSum)
			}
		}
	}
}

func TestScan(t *testing.T) {
	all := texts()
	s, ends := "", []int{0}
	for _, body := range all {
		s += put(t, body)
		ends = append(ends, len(s))
	}
	isScan(t, s, all, len(s))
	for n := range ends {
		isScan(t, s[:ends[n]], all[:n], ends[n])
		for _, more := range []string{"x", "\x00\x00\x00\x00\x00\x00\x00", "nothing at all", "\xff\xff\xff\xff\x00\x00\x00\x00", "\x00\x00\x00\x00aaaa", "\x05\x00\x00\x00aaaaaaa"} {
			isScan(t, s[:ends[n]]+more, all[:n], ends[n])
		}
	}
}

func TestScanOfNothing(t *testing.T) {
	for _, s := range []string{"", "a", "nothing at all", "1234567", "\x00", "\x01\x00\x00\x00\x43\xbe\xb7\xe8b", "\x01\x00\x00\x00\x43\xbe\xb7\xe8", "\x01\x40\x00\x00aaaaaaaa", "\xff\xff\xff\xff\xff\xff\xff\xff"} {
		isScan(t, s, nil, 0)
	}
}

// Bytes 00 are frames of empty texts, eight of them each.
func TestScanOfEmptyTexts(t *testing.T) {
	for n := range 40 {
		isScan(t, strings.Repeat("\x00", n), make([]string, n/8), n/8*8)
	}
}

// However many bytes are cut off behind, the whole frames are found.
func TestScanOfCutBytes(t *testing.T) {
	bodies := []string{"", "a", "", "two", noise(1, 40), built("inner"), "", "last"}
	s, ends := "", []int{0}
	for _, body := range bodies {
		s += put(t, body)
		ends = append(ends, len(s))
	}
	for i := range len(s) + 1 {
		n := 0
		for n+1 < len(ends) && ends[n+1] <= i {
			n++
		}
		isScan(t, s[:i], bodies[:n], ends[n])
	}
}

// Behind a frame that isn't right nothing is found, though right ones follow.
func TestScanEndsAtTheFirstFault(t *testing.T) {
	a, b, c := put(t, "a"), put(t, "bb"), put(t, "")
	for i := range b {
		other := changed(b, i, 0x81)
		bodies, n := frame.Scan(a + other + c)
		if !slices.Equal(bodies, []string{"a"}) || n != len(a) {
			t.Errorf("byte %d: %q, %d", i, bodies, n)
		}
	}
	isScan(t, a+"x"+b+c, []string{"a"}, len(a))
	isScan(t, "x"+a+b+c, nil, 0)
}

// Scan finds what Next finds, one text behind the other.
func TestScanIsNextOverAndOver(t *testing.T) {
	for seed := range uint64(2000) {
		s := ""
		for i := range seed % 6 {
			s += put(t, noise(seed+i, int((seed*31+i*17)%23)))
		}
		if cut := int(seed * 7 % 40); cut < len(s) {
			s = s[:len(s)-cut]
		}
		s += noise(seed, int(seed%19))
		if seed%3 == 0 && s != "" {
			s = changed(s, int(seed*13)%len(s), 1<<(seed%8))
		}
		var bodies []string
		at := 0
		for {
			body, behind, e := frame.Next(s, at)
			if e != api.OK {
				break
			}
			bodies, at = append(bodies, body), behind
		}
		isScan(t, s, bodies, at)
	}
}

// What is told would have been put so: a frame has one form.
func TestOneForm(t *testing.T) {
	for seed := range uint64(3000) {
		s := noise(seed, 8+int(seed%5))
		s = low(uint32(seed%7)) + s[4:]
		if seed%2 == 0 {
			n := min(int(seed%7), len(s)-8)
			s = s[:4] + low(crc32.ChecksumIEEE([]byte(s[8:8+n]))) + s[8:]
		}
		body, behind, e := frame.Next(s, 0)
		if e == api.OK && put(t, body) != s[:behind] {
			t.Errorf("%q is read as %q", s, body)
		}
	}
}

// An answer's list is new each time.
func TestScanAnswersNewLists(t *testing.T) {
	s := put(t, "a") + put(t, "b")
	l, _ := frame.Scan(s)
	l[0] = "changed"
	_ = append(l, "more")
	isScan(t, s, []string{"a", "b"}, len(s))
}

// A tape full of the smallest frames is gone through once.
func TestLongScanEnds(t *testing.T) {
	s := strings.Repeat(put(t, ""), api.MaxTape/8)
	l, n := frame.Scan(s)
	if len(l) != api.MaxTape/8 || n != len(s) {
		t.Error(len(l), n)
	}
}
