package flock_test

import (
	"fmt"
	"math"
	"math/rand"
	"reflect"
	"regexp"
	"slices"
	"strconv"
	"strings"
	"testing"

	"heliograph/api"
	"heliograph/flock"
)

const far = 1 << 40 // MaxOffset

// numbers are those at the ends of their type, and around those that the chapter names.
var numbers = []int{math.MinInt, math.MinInt + 1, math.MinInt32, -far, -2, -1, 0, 1, 2, 3, 4, 5, 255, 256, math.MaxInt32, 1<<32 + 1, 1<<32 + 2, 1<<32 + 3, far - 1, far, far + 1, math.MaxInt - 1, math.MaxInt}

// odd are texts that are no names.
var odd = []string{"", "123456789", "abcdefghi", strings.Repeat("a", 1<<16), "A", "gA", "Gg", "-", "g-", "a b", " a", "a ", "a\n", "\x00", "g\x00", "\xff", "é", "gé", "/", ":", "`", "{", "\u0663"}

// turn, point and no are records, written as the chapter's words have them.
func turn(name string, gen, parts int, members ...string) api.Rec {
	var s strings.Builder
	for _, m := range members {
		fmt.Fprintf(&s, "%d:%s", len(m), m)
	}
	return api.Rec{Key: "t" + name, Val: fmt.Sprintf("li%dei%del%see", gen, parts, s.String())}
}

func point(part int, name string, off, gen int) api.Rec {
	return api.Rec{Key: fmt.Sprintf("c%d%s", part, name), Val: fmt.Sprintf("li%dei%dee", off, gen)}
}

func no(code api.Errno) api.Rec { return api.Rec{Key: "n", Val: fmt.Sprintf("li%dee", int(code))} }

// group is a group, its members one behind the other with blanks between, its points as numbers: a partition, an offset, and so on.
func group(name string, gen, parts int, members string, points ...int) api.Flock {
	g := api.Flock{Name: name, Gen: gen, Parts: parts, Members: strings.Fields(members)}
	for i := 0; i < len(points); i += 2 {
		g.Points = append(g.Points, api.Point{Part: points[i], Off: points[i+1]})
	}
	return g
}

// story are records that tell the groups of groups(): all that can come does.
func story() []api.Rec {
	return []api.Rec{
		turn("g", 1, 4, "b"), point(1, "g", 5, 1), turn("k", 1, 2, "m"), turn("g", 2, 4, "a", "b"), point(3, "g", 7, 2), point(1, "g", 6, 2), point(0, "g", far, 2),
		turn("a", 1, 4, "x"), turn("a", 2, 3), no(api.ErrTurn), turn("g", 3, 4, "a", "b", "d"), {Key: "k", Val: "v"},
	}
}

func groups() []api.Flock {
	return []api.Flock{group("a", 2, 3, ""), group("g", 3, 4, "a b d", 0, far, 1, 6, 3, 7), group("k", 1, 2, "m")}
}

// four are as many groups as there can be, of names of 1 and of 8 bytes, with no, one and four members.
func four() []api.Flock {
	return []api.Flock{group("0", 9, 0, "a b"), group("b", 1, 4, "m", 1, 0, 2, 5), group("cccccccc", 6, 4, ""), group("z9", 12, 3, "00000000 9 a zzzzzzzz", 0, 1, 1, 2, 2, 3, 3, 4)}
}

// tellings are records that tell four().
func tellings() []api.Rec {
	var list []api.Rec
	for _, g := range four() {
		for gen := 1; gen < g.Gen; gen++ {
			list = append(list, turn(g.Name, gen, 4, "m"))
		}
		list = append(list, turn(g.Name, g.Gen, g.Parts, g.Members...))
		for _, p := range g.Points {
			list = append(list, point(p.Part, g.Name, p.Off, g.Gen))
		}
	}
	return list
}

// deep is a list with memory of its own.
func deep(list []api.Flock) []api.Flock {
	list = slices.Clone(list)
	for i := range list {
		list[i].Members, list[i].Points = slices.Clone(list[i].Members), slices.Clone(list[i].Points)
	}
	return list
}

// alike: whether two lists of groups are equal.
func alike(a, b []api.Flock) bool {
	return slices.EqualFunc(a, b, func(g, h api.Flock) bool {
		return g.Name == h.Name && g.Gen == h.Gen && g.Parts == h.Parts && slices.Equal(g.Members, h.Members) && slices.Equal(g.Points, h.Points)
	})
}

func isGroups(t *testing.T, what string, got, want []api.Flock) {
	t.Helper()
	if !alike(got, want) {
		t.Errorf("%.300s: %v, want %v", what, got, want)
	}
}

// isResp: Client and N are always 3 and 8, and Recs and High nothing.
func isResp(t *testing.T, what string, got api.Resp, code api.Errno, off, gen int, parts ...int) {
	t.Helper()
	same := got.Client == 3 && got.N == 8 && got.Code == code && got.Off == off && got.Gen == gen && slices.Equal(got.Parts, parts)
	if !same || got.High != 0 || len(got.Recs) != 0 {
		t.Errorf("%.300s: %v, want %d %d %d %v", what, got, code, off, gen, parts)
	}
}

func request(kind int, group, member string) api.Req {
	return api.Req{Client: 3, N: 8, Kind: kind, Group: group, Member: member}
}

func commit(group, member string, gen, part, off int) api.Req {
	return api.Req{Client: 3, N: 8, Kind: api.ReqCommit, Group: group, Member: member, Gen: gen, Part: part, Off: off}
}

func beat(group, member string, gen int) api.Req {
	return api.Req{Client: 3, N: 8, Kind: api.ReqBeat, Group: group, Member: member, Gen: gen}
}

func asked(group string, part int) api.Req {
	return api.Req{Client: 3, N: 8, Kind: api.ReqCommitted, Group: group, Part: part}
}

func isDecided(t *testing.T, list []api.Flock, parts int, q api.Req, want api.Rec) {
	t.Helper()
	if got := flock.Decide(list, parts, q); got != want {
		t.Errorf("%d %.200v: %.200v, want %.200v", parts, q, got, want)
	}
}

func TestExample(t *testing.T) {
	q := request(api.ReqJoin, "g", "a")
	x := flock.Decide(nil, 4, q)
	if x != (api.Rec{Key: "tg", Val: "li1ei4el1:aee"}) {
		t.Error(x)
	}
	isResp(t, "Look", flock.Look(flock.Apply(nil, x), beat("g", "a", 1)), api.OK, 0, 1, 1, 2, 3)
}

func TestFold(t *testing.T) {
	isGroups(t, "nothing", flock.Fold(nil), nil)
	isGroups(t, "nothing", flock.Fold([]api.Rec{}), nil)
	isGroups(t, "one", flock.Fold(story()[:1]), []api.Flock{group("g", 1, 4, "b")})
	isGroups(t, "story", flock.Fold(story()), groups())
	isGroups(t, "four", flock.Fold(tellings()), four())
	// The other way round just the first generations are told.
	list := story()
	slices.Reverse(list)
	isGroups(t, "story, from its end", flock.Fold(list), []api.Flock{group("a", 1, 4, "x"), group("g", 1, 4, "b"), group("k", 1, 2, "m")})
}

// Fold is Apply over and over, and each beginning of a story is told.
func TestFoldIsApply(t *testing.T) {
	for _, list := range [][]api.Rec{story(), tellings()} {
		var groups []api.Flock
		for i, x := range list {
			groups = flock.Apply(groups, x)
			isGroups(t, fmt.Sprint(i), flock.Fold(list[:i+1]), groups)
		}
	}
}

func TestApplyTurn(t *testing.T) {
	one := []api.Flock{group("g", 2, 4, "a b", 1, 5, 3, 7)}
	for _, c := range []struct {
		list []api.Flock
		x    api.Rec
		want []api.Flock
	}{
		{nil, turn("g", 1, 4, "a"), []api.Flock{group("g", 1, 4, "a")}},
		{nil, turn("g", 1, 0), []api.Flock{group("g", 1, 0, "")}},
		{nil, turn("12345678", 1, 1, "1", "2", "3", "4"), []api.Flock{group("12345678", 1, 1, "1 2 3 4")}},
		{nil, turn("0", 1, 2, "zzzzzzzy", "zzzzzzzz"), []api.Flock{group("0", 1, 2, "zzzzzzzy zzzzzzzz")}},
		// Members that come and go, and partitions that there are more or fewer of: points stay.
		{one, turn("g", 3, 3, "b"), []api.Flock{group("g", 3, 3, "b", 1, 5, 3, 7)}},
		{one, turn("g", 3, 4, "a", "b"), []api.Flock{group("g", 3, 4, "a b", 1, 5, 3, 7)}},
		{one, turn("g", 3, 0), []api.Flock{group("g", 3, 0, "", 1, 5, 3, 7)}},
		{one, turn("g", 3, 1, "0", "a", "b", "c"), []api.Flock{group("g", 3, 1, "0 a b c", 1, 5, 3, 7)}},
		// Others' points aren't a new one's.
		{one, turn("f", 1, 4, "a"), []api.Flock{group("f", 1, 4, "a"), one[0]}},
		{one, turn("h", 1, 4, "a"), []api.Flock{one[0], group("h", 1, 4, "a")}},
		{one, turn("gg", 1, 4, "a"), []api.Flock{one[0], group("gg", 1, 4, "a")}},
		{groups(), turn("b", 1, 4, "a"), []api.Flock{groups()[0], group("b", 1, 4, "a"), groups()[1], groups()[2]}},
		{groups(), turn("0", 1, 4, "a"), slices.Insert(groups(), 0, group("0", 1, 4, "a"))},
		{groups(), turn("kk", 1, 4, "a"), append(groups(), group("kk", 1, 4, "a"))},
		{groups(), turn("a", 3, 4, "a"), []api.Flock{group("a", 3, 4, "a"), groups()[1], groups()[2]}},
		{four(), turn("0", 10, 4), slices.Insert(four()[1:], 0, group("0", 10, 4, ""))},
		{four(), turn("z9", 13, 4, "a"), append(four()[:3], group("z9", 13, 4, "a", 0, 1, 1, 2, 2, 3, 3, 4))},
	} {
		isGroups(t, fmt.Sprint(c.list, c.x), flock.Apply(c.list, c.x), c.want)
	}
}

// A turn of another generation than the next one says nothing, and so does one of a fifth group.
func TestApplyTurnOutOfTurn(t *testing.T) {
	for _, gen := range numbers {
		if gen != 1 {
			isGroups(t, "no group", flock.Apply(nil, turn("g", gen, 4, "a")), nil)
			isGroups(t, "another group", flock.Apply(groups(), turn("b", gen, 4, "a")), groups())
		}
		if gen != 4 {
			isGroups(t, fmt.Sprint(gen), flock.Apply(groups(), turn("g", gen, 4, "a")), groups())
		}
		isGroups(t, "a fifth group", flock.Apply(four(), turn("g", gen, 4, "a")), four())
	}
	isGroups(t, "the generation 4", flock.Apply(groups(), turn("g", 4, 4, "a"))[1:2], []api.Flock{group("g", 4, 4, "a", 0, far, 1, 6, 3, 7)})
}

func TestApplyPoint(t *testing.T) {
	one := []api.Flock{group("g", 2, 2, "a b")}
	for _, c := range []struct {
		list []api.Flock
		x    api.Rec
		want []api.Flock
	}{
		// Neither who owns a partition nor whether there is one plays a part.
		{one, point(0, "g", 0, 2), []api.Flock{group("g", 2, 2, "a b", 0, 0)}},
		{one, point(3, "g", far, 2), []api.Flock{group("g", 2, 2, "a b", 3, far)}},
		{groups(), point(2, "g", 9, 3), []api.Flock{groups()[0], group("g", 3, 4, "a b d", 0, far, 1, 6, 2, 9, 3, 7), groups()[2]}},
		{groups(), point(0, "g", 9, 3), []api.Flock{groups()[0], group("g", 3, 4, "a b d", 0, 9, 1, 6, 3, 7), groups()[2]}},
		{groups(), point(1, "g", 0, 3), []api.Flock{groups()[0], group("g", 3, 4, "a b d", 0, far, 1, 0, 3, 7), groups()[2]}},
		{groups(), point(3, "g", 3, 3), []api.Flock{groups()[0], group("g", 3, 4, "a b d", 0, far, 1, 6, 3, 3), groups()[2]}},
		{groups(), point(3, "a", 3, 2), []api.Flock{group("a", 2, 3, "", 3, 3), groups()[1], groups()[2]}},
		{groups(), point(2, "k", 3, 1), []api.Flock{groups()[0], groups()[1], group("k", 1, 2, "m", 2, 3)}},
		{four(), point(0, "b", 3, 1), []api.Flock{four()[0], group("b", 1, 4, "m", 0, 3, 1, 0, 2, 5), four()[2], four()[3]}},
		{four(), point(3, "b", 3, 1), []api.Flock{four()[0], group("b", 1, 4, "m", 1, 0, 2, 5, 3, 3), four()[2], four()[3]}},
	} {
		isGroups(t, fmt.Sprint(c.list, c.x), flock.Apply(c.list, c.x), c.want)
	}
}

// A point of another generation, of no group, of no partition, of no offset says nothing.
func TestApplyPointOfNone(t *testing.T) {
	for _, n := range numbers {
		if n != 3 {
			isGroups(t, "another generation", flock.Apply(groups(), point(1, "g", 1, n)), groups())
		}
		isGroups(t, "no group", flock.Apply(nil, point(1, "g", 1, n)), nil)
		isGroups(t, "another group", flock.Apply(groups(), point(1, "h", 1, n)), groups())
		if n < 0 || n > far {
			isGroups(t, "no offset", flock.Apply(groups(), point(1, "g", n, 3)), groups())
		}
	}
	// The digit is one: what stands behind it is the name.
	isGroups(t, "two digits", flock.Apply(groups(), api.Rec{Key: "c01g", Val: "li9ei3ee"}), groups())
	isGroups(t, "two digits", flock.Apply([]api.Flock{group("1g", 3, 4, "")}, api.Rec{Key: "c01g", Val: "li9ei3ee"}), []api.Flock{group("1g", 3, 4, "", 0, 9)})
	for c := range 256 {
		x := point(1, "g", 44, 3)
		x.Key = "c" + string([]byte{byte(c)}) + "g"
		list := flock.Apply(groups(), x)
		part := c - '0'
		if part < 0 || part > 3 {
			isGroups(t, x.Key, list, groups())
		} else if i := slices.Index(list[1].Points, api.Point{Part: part, Off: 44}); i < 0 {
			t.Error(x, list)
		}
	}
}

// malformed are records that are none of the three, whatever the groups are; but for what is wrong each of them would say something of groups().
func malformed() []api.Rec {
	list := []api.Rec{
		{}, {Key: "t"}, {Key: "c"}, {Key: "c1"}, {Key: "n"}, {Key: "g"}, {Key: "tg"}, {Key: "c1g"},
		{Val: "li4ei4el1:aee"}, {Val: "li9ei3ee"}, {Val: "li0ee"},
		{Key: "t", Val: "li1ei4el1:aee"}, {Key: "c1", Val: "li9ei3ee"}, {Key: "c", Val: "li9ei3ee"},
		{Key: "g", Val: "li4ei4el1:aee"}, {Key: "Tg", Val: "li4ei4el1:aee"}, {Key: "xg", Val: "li4ei4el1:aee"}, {Key: " tg", Val: "li4ei4el1:aee"}, {Key: "tg ", Val: "li4ei4el1:aee"}, {Key: "ng", Val: "li4ei4el1:aee"},
		{Key: "C1g", Val: "li9ei3ee"}, {Key: "cg", Val: "li9ei3ee"}, {Key: "cg1", Val: "li9ei3ee"}, {Key: "c-1g", Val: "li9ei3ee"}, {Key: "c4g", Val: "li9ei3ee"}, {Key: "c9g", Val: "li9ei3ee"}, {Key: "c/g", Val: "li9ei3ee"}, {Key: "c\xb1g", Val: "li9ei3ee"},
		{Key: "N", Val: "li0ee"}, {Key: "n ", Val: "li0ee"}, {Key: "n0", Val: "li0ee"}, {Key: "ng", Val: "li0ee"}, {Key: "nn", Val: "li0ee"},
		// Kinds whose Vals are others'.
		{Key: "tg", Val: "li9ei3ee"}, {Key: "tg", Val: "li4ee"}, {Key: "c1g", Val: "li4ei4el1:aee"}, {Key: "c1g", Val: "li3ee"}, {Key: "n", Val: "li9ei3ee"}, {Key: "n", Val: "li4ei4el1:aee"}, {Key: "n", Val: "i0e"}, {Key: "n", Val: "le"}, {Key: "n", Val: "l1:0e"},
		{Key: "tg", Val: "li4ei4ee"}, {Key: "tg", Val: "li4ei4e1:ae"}, {Key: "tg", Val: "li4ei4eli1eee"}, {Key: "tg", Val: "li4ei4el1:ali1eeee"}, {Key: "tg", Val: "l1:4i4el1:aee"}, {Key: "tg", Val: "i4ei4el1:ae"}, {Key: "tg", Val: "li4ei4el1:aei1ee"}, {Key: "tg", Val: "li4ei4el1:aelee"},
		{Key: "c1g", Val: "li9ei3ei1ee"}, {Key: "c1g", Val: "i9ei3e"}, {Key: "c1g", Val: "l1:9i3ee"}, {Key: "c1g", Val: "lli9eei3ee"},
	}
	for _, val := range []string{"li04ei4el1:aee", "li+4ei4el1:aee", "li4ei-0el1:aee", "li4ei04el1:aee", "li4ei4el01:aee", "li4ei4el+1:aee", "li 4ei4el1:aee", "li4.0ei4el1:aee", "li18446744073709551620ei4el1:aee", "li4ei18446744073709551618el1:aee", "LI4EI4EL1:AEE"} {
		list = append(list, api.Rec{Key: "tg", Val: val})
	}
	for _, val := range []string{"li09ei3ee", "li9ei03ee", "li-0ei3ee", "li9ei+3ee", "liei3ee", "li9ei3 ee", "li18446744073709551617ei3ee", "li9ei18446744073709551619ee"} {
		list = append(list, api.Rec{Key: "c1g", Val: val})
	}
	for _, val := range []string{"li00ee", "li-0ee", "li+1ee", "liee", "li0e", "li0eee", "li18446744073709551616ee"} {
		list = append(list, api.Rec{Key: "n", Val: val})
	}
	for _, n := range numbers {
		if n < 0 || n > 4 {
			list = append(list, turn("g", 4, n, "a"))
		}
		if n < 0 || n > far {
			list = append(list, point(1, "g", n, 3))
		}
	}
	for _, s := range odd {
		list = append(list, turn(s, 1, 4, "a"), turn("g", 4, 4, s), turn("g", 4, 4, "0", s), turn("g", 4, 4, s, "zzzzzzzz"), point(1, s, 9, 3))
	}
	for _, s := range []string{"a a", "b a", "aa a", "9 10", "a b b", "a c b", "b a c", "a a b c", "d c b a", "a b c d e", "a b c d d", "a b c d e f g h", "0 1 2 3 4"} {
		list = append(list, turn("g", 4, 4, strings.Fields(s)...))
	}
	list = append(list, turn("g", 4, 4, make([]string, 5)...), turn("g", 4, 4, make([]string, 1<<16)...))
	for _, x := range right() {
		for i := range len(x.Val) {
			list = append(list, api.Rec{Key: x.Key, Val: x.Val[:i]}, api.Rec{Key: x.Key, Val: x.Val[i+1:]})
		}
		for _, s := range []string{"e", "l", "le", "i1e", "0:", " ", "\x00", "\n", x.Val} {
			list = append(list, api.Rec{Key: x.Key, Val: x.Val + s}, api.Rec{Key: x.Key, Val: s + x.Val})
		}
		list = append(list, api.Rec{Key: x.Key, Val: x.Val, Gone: true}, api.Rec{Key: x.Key, Gone: true}, api.Rec{Off: 5, Key: x.Key, Val: x.Val, Gone: true})
	}
	return list
}

// right are records that are some: a turn, points and noes, that say something of groups() as far as such ones do.
func right() []api.Rec {
	return []api.Rec{turn("g", 4, 4, "a"), turn("g", 4, 0), turn("b", 1, 4, "0", "a", "m", "zzzzzzzz"), point(1, "g", 9, 3), point(2, "g", far, 3), no(0), no(api.ErrTurn)}
}

func TestRight(t *testing.T) {
	for i, x := range right() {
		if said := !alike(flock.Apply(groups(), x), groups()); said != (i < 5) {
			t.Error(x, said)
		}
	}
}

// What is malformed says nothing, of no groups, some and four, and between others.
func TestApplyMalformed(t *testing.T) {
	for _, x := range malformed() {
		what := fmt.Sprintf("%.100v", x)
		isGroups(t, what, flock.Apply(nil, x), nil)
		isGroups(t, what, flock.Apply(groups(), x), groups())
		isGroups(t, what, flock.Apply(four(), x), four())
		list := story()
		for i := range list {
			list = slices.Insert(list, 2*i, x)
		}
		// The group k is of Parts 2: a malformed one might go on with it.
		isGroups(t, what, flock.Fold(append(list, x, x)), groups())
	}
}

// A no, and a record of nobody's, say nothing.
func TestApplyOthers(t *testing.T) {
	for _, n := range numbers {
		isGroups(t, "no", flock.Apply(groups(), no(api.Errno(n))), groups())
	}
	for c := range 256 {
		for _, val := range []string{"", "v", "li4ei4el1:aee", "li9ei3ee", "li0ee"} {
			for _, key := range []string{"", "g", "1g"} {
				if said := c == 't' && key == "g" && val == "li4ei4el1:aee" || c == 'c' && key == "1g" && val == "li9ei3ee"; said {
					continue
				}
				x := api.Rec{Key: string([]byte{byte(c)}) + key, Val: val}
				isGroups(t, fmt.Sprintf("%v", x), flock.Apply(groups(), x), groups())
			}
		}
	}
}

// Where a record stands in the log isn't read.
func TestOffIsNotRead(t *testing.T) {
	for _, off := range numbers {
		for _, x := range right() {
			y := x
			y.Off = off
			isGroups(t, fmt.Sprint(y), flock.Apply(groups(), y), flock.Apply(groups(), x))
			q := request(api.ReqJoin, "g", "a")
			if a, b := flock.Answer(groups(), x, q), flock.Answer(groups(), y, q); !reflect.DeepEqual(a, b) || a.Code == api.ErrForm {
				t.Error(y, a, b)
			}
		}
		list := story()
		for i := range list {
			list[i].Off = off
		}
		isGroups(t, fmt.Sprint(off), flock.Fold(list), groups())
	}
}

func TestDecideJoin(t *testing.T) {
	for _, c := range []struct {
		list          []api.Flock
		group, member string
		want          api.Rec
	}{
		{nil, "g", "a", turn("g", 1, 4, "a")},
		{nil, "12345678", "abcdefgh", turn("12345678", 1, 4, "abcdefgh")},
		{nil, "0", "z", turn("0", 1, 4, "z")},
		// Ahead of others, between them, behind them.
		{groups(), "g", "0", turn("g", 4, 4, "0", "a", "b", "d")},
		{groups(), "g", "aa", turn("g", 4, 4, "a", "aa", "b", "d")},
		{groups(), "g", "c", turn("g", 4, 4, "a", "b", "c", "d")},
		{groups(), "g", "da", turn("g", 4, 4, "a", "b", "d", "da")},
		{groups(), "a", "m", turn("a", 3, 4, "m")},
		{groups(), "k", "l", turn("k", 2, 4, "l", "m")},
		{groups(), "k", "n", turn("k", 2, 4, "m", "n")},
		// The fourth group, and more members of four.
		{groups(), "b", "a", turn("b", 1, 4, "a")},
		{four(), "b", "a", turn("b", 2, 4, "a", "m")},
		{four(), "cccccccc", "a", turn("cccccccc", 7, 4, "a")},
		// Who is a member.
		{groups(), "g", "a", no(0)}, {groups(), "g", "b", no(0)}, {groups(), "g", "d", no(0)}, {groups(), "k", "m", no(0)},
		{four(), "z9", "00000000", no(0)}, {four(), "z9", "zzzzzzzz", no(0)},
		// A fifth member, a fifth group.
		{four(), "z9", "0", no(32)}, {four(), "z9", "b", no(32)}, {four(), "z9", "zzzzzzzy", no(32)},
		{four(), "1", "a", no(32)}, {four(), "c", "m", no(32)}, {four(), "zz", "a", no(32)}, {four(), "zzzzzzzz", "zzzzzzzz", no(32)},
	} {
		isDecided(t, c.list, 4, request(api.ReqJoin, c.group, c.member), c.want)
	}
}

func TestDecideLeave(t *testing.T) {
	for _, c := range []struct {
		list          []api.Flock
		group, member string
		want          api.Rec
	}{
		{groups(), "g", "a", turn("g", 4, 4, "b", "d")},
		{groups(), "g", "b", turn("g", 4, 4, "a", "d")},
		{groups(), "g", "d", turn("g", 4, 4, "a", "b")},
		{groups(), "k", "m", turn("k", 2, 4)}, // nobody is left
		{four(), "z9", "9", turn("z9", 13, 4, "00000000", "a", "zzzzzzzz")},
		{four(), "z9", "zzzzzzzz", turn("z9", 13, 4, "00000000", "9", "a")},
		{nil, "g", "a", no(31)}, {groups(), "b", "a", no(31)}, {groups(), "a", "a", no(31)}, {groups(), "g", "c", no(31)}, {groups(), "g", "aa", no(31)}, {groups(), "g", "m", no(31)}, {groups(), "g", "0", no(31)},
		{four(), "g", "a", no(31)}, {four(), "cccccccc", "m", no(31)}, {four(), "z9", "m", no(31)},
	} {
		isDecided(t, c.list, 4, request(api.ReqLeave, c.group, c.member), c.want)
	}
}

// What is no name is told first, whatever else is so.
func TestDecideOfNoNames(t *testing.T) {
	for _, list := range [][]api.Flock{nil, groups(), four()} {
		for _, kind := range []int{api.ReqJoin, api.ReqLeave} {
			for _, s := range odd {
				isDecided(t, list, 4, request(kind, s, "a"), no(1))
				isDecided(t, list, 4, request(kind, "g", s), no(1))
				isDecided(t, list, 4, request(kind, "z9", s), no(1))
				isDecided(t, list, 4, request(kind, s, s), no(1))
			}
		}
	}
}

// Each byte, at each place of a name.
func TestLetters(t *testing.T) {
	const letters = "0123456789abcdefghijklmnopqrstuvwxyz"
	for c := range 256 {
		for size := 1; size <= 9; size++ {
			for at := range size {
				b := []byte(strings.Repeat("m", size))
				b[at] = byte(c)
				name := string(b)
				group, member := no(1), no(1)
				if strings.IndexByte(letters, byte(c)) >= 0 && size <= 8 {
					group, member = turn(name, 1, 4, "a"), turn("g", 1, 4, name)
				}
				isDecided(t, nil, 4, request(api.ReqJoin, name, "a"), group)
				isDecided(t, nil, 4, request(api.ReqJoin, "g", name), member)
				if said := len(flock.Apply(nil, turn(name, 1, 4, "a"))) == 1; said != (group.Key != "n") {
					t.Errorf("%q %v", name, said)
				}
				if said := len(flock.Apply(nil, turn("g", 1, 4, name))) == 1; said != (member.Key != "n") {
					t.Errorf("%q %v", name, said)
				}
			}
		}
	}
}

// A turn has parts as its number of partitions, below 0 as 0, above MaxParts as that; the group's isn't asked.
func TestDecideParts(t *testing.T) {
	for _, n := range numbers {
		parts := max(0, min(n, 4))
		isDecided(t, nil, n, request(api.ReqJoin, "g", "a"), turn("g", 1, parts, "a"))
		isDecided(t, groups(), n, request(api.ReqJoin, "g", "c"), turn("g", 4, parts, "a", "b", "c", "d"))
		isDecided(t, groups(), n, request(api.ReqLeave, "k", "m"), turn("k", 2, parts))
		isDecided(t, groups(), n, request(api.ReqJoin, "g", "a"), no(0))
		isDecided(t, groups(), n, commit("g", "d", 3, 3, 9), point(3, "g", 9, 3))
	}
}

func TestDecideCommit(t *testing.T) {
	for _, c := range []struct {
		list []api.Flock
		q    api.Req
		want api.Rec
	}{
		{groups(), commit("g", "a", 3, 1, 0), point(1, "g", 0, 3)},
		{groups(), commit("g", "b", 3, 2, far), point(2, "g", far, 3)},
		{groups(), commit("g", "d", 3, 3, 9), point(3, "g", 9, 3)},
		{groups(), commit("k", "m", 1, 1, 9), point(1, "k", 9, 1)},
		{four(), commit("b", "m", 1, 3, 9), point(3, "b", 9, 1)},
		{four(), commit("z9", "9", 12, 2, 1), point(2, "z9", 1, 12)},
		// Another's partition, a partition that there wasn't in the generation, one that nobody owns.
		{groups(), commit("g", "a", 3, 2, 9), no(30)}, {groups(), commit("g", "b", 3, 1, 9), no(30)}, {groups(), commit("g", "d", 3, 1, 9), no(30)},
		{groups(), commit("k", "m", 1, 2, 9), no(30)}, {groups(), commit("k", "m", 1, 3, 9), no(30)}, {groups(), commit("g", "a", 3, 0, 9), no(30)}, {groups(), commit("g", "", 3, 0, 9), no(30)}, {groups(), commit("g", "", 3, 4, 9), no(30)},
		{four(), commit("0", "a", 9, 1, 9), no(30)}, {four(), commit("z9", "a", 12, 3, 9), no(30)}, {four(), commit("z9", "zzzzzzzz", 12, 2, 9), no(30)}, {four(), commit("cccccccc", "m", 6, 1, 9), no(30)}, {four(), commit("cccccccc", "", 6, 1, 9), no(30)},
		// No member, no group.
		{groups(), commit("g", "c", 3, 1, 9), no(30)}, {groups(), commit("g", "", 3, 1, 9), no(30)}, {groups(), commit("g", "A", 3, 1, 9), no(30)}, {groups(), commit("g", strings.Repeat("a", 9), 3, 1, 9), no(30)},
		{groups(), commit("h", "a", 3, 1, 9), no(30)}, {groups(), commit("", "a", 0, 1, 9), no(30)}, {groups(), commit("h", "", 0, 0, 9), no(30)}, {nil, commit("g", "a", 1, 1, 9), no(30)}, {nil, commit("", "", 0, 0, 0), no(30)}, {nil, commit("g", "", 0, 1, 0), no(30)},
		// The owner is asked ahead of the offset.
		{groups(), commit("g", "a", 3, 2, -1), no(30)}, {groups(), commit("g", "a", 2, 1, far+1), no(30)}, {groups(), commit("h", "a", 3, 1, -1), no(30)},
	} {
		isDecided(t, c.list, 4, c.q, c.want)
	}
	for _, s := range odd {
		isDecided(t, groups(), 4, commit(s, "a", 3, 1, 9), no(30))
		isDecided(t, groups(), 4, commit("g", s, 3, 1, 9), no(30))
	}
}

func TestDecideCommitNumbers(t *testing.T) {
	for _, n := range numbers {
		gen, part, off := no(30), no(30), no(1)
		if n == 3 {
			gen = point(1, "g", 9, n)
		}
		if n == 1 {
			part = point(n, "g", 9, 3)
		}
		if n >= 0 && n <= far {
			off = point(1, "g", n, 3)
		}
		isDecided(t, groups(), 4, commit("g", "a", n, 1, 9), gen)
		isDecided(t, groups(), 4, commit("g", "a", 3, n, 9), part)
		isDecided(t, groups(), 4, commit("g", "a", 3, 1, n), off)
	}
}

// Requests of all other kinds bring a no of ErrArg, whatever they hold.
func TestDecideElse(t *testing.T) {
	for _, kind := range append([]int{api.ReqProduce, api.ReqFetch, api.ReqBeat, api.ReqCommitted, api.ReqCreate, 9, 99}, numbers...) {
		if kind == api.ReqJoin || kind == api.ReqLeave || kind == api.ReqCommit {
			continue
		}
		for _, q := range []api.Req{{}, request(0, "g", "c"), request(0, "g", "a"), commit("g", "a", 3, 1, 9), request(0, "", "A")} {
			q.Kind = kind
			isDecided(t, groups(), 4, q, no(1))
			isDecided(t, nil, 4, q, no(1))
		}
	}
}

func TestAnswer(t *testing.T) {
	join, leave := func(m string) api.Req { return request(api.ReqJoin, "g", m) }, func(m string) api.Req { return request(api.ReqLeave, "g", m) }
	for _, c := range []struct {
		x     api.Rec
		q     api.Req
		code  api.Errno
		off   int
		gen   int
		parts []int
	}{
		// A turn tells what is so in the groups.
		{turn("g", 3, 4, "a", "b", "d"), join("a"), 0, 0, 3, []int{1}},
		{turn("g", 3, 4, "a", "b", "d"), join("d"), 0, 0, 3, []int{3}},
		{turn("g", 3, 4, "a", "b", "d"), leave("c"), 0, 0, 3, nil},
		{turn("g", 3, 4, "a", "b", "d"), leave("b"), 0, 0, 3, []int{2}},
		{turn("g", 3, 4, "a", "b", "d"), commit("g", "b", 3, 2, 9), 0, 0, 3, []int{2}},
		{turn("g", 2, 0), join("a"), 0, 0, 3, []int{1}},
		{turn("k", 1, 2, "m"), request(api.ReqJoin, "k", "m"), 0, 0, 1, []int{1}},
		{turn("a", 2, 3), request(api.ReqLeave, "a", "x"), 0, 0, 2, nil},
		{turn("h", 1, 4, "a"), request(api.ReqJoin, "h", "a"), 0, 0, 0, nil},
		// A no of OK tells that of a join alone.
		{no(0), join("a"), 0, 0, 3, []int{1}}, {no(0), join("c"), 0, 0, 3, nil}, {no(0), request(api.ReqJoin, "k", "m"), 0, 0, 1, []int{1}}, {no(0), request(api.ReqJoin, "h", "m"), 0, 0, 0, nil},
		{no(0), leave("a"), 0, 0, 0, nil}, {no(0), commit("g", "a", 3, 1, 9), 0, 0, 0, nil}, {no(0), beat("g", "a", 3), 0, 0, 0, nil}, {no(0), asked("g", 3), 0, 0, 0, nil},
		{no(1), join("a"), 1, 0, 0, nil}, {no(30), commit("g", "a", 3, 1, 9), 30, 0, 0, nil}, {no(31), leave("a"), 31, 0, 0, nil}, {no(32), join("a"), 32, 0, 0, nil}, {no(3), join("a"), 3, 0, 0, nil},
		// A point tells what it has.
		{point(1, "g", 0, 3), commit("g", "a", 3, 1, 0), 0, 0, 3, nil}, {point(3, "g", far, 3), commit("g", "d", 3, 3, far), 0, far, 3, nil}, {point(1, "g", 44, 2), commit("g", "a", 3, 1, 9), 0, 44, 2, nil},
		{point(1, "k", 7, 1), join("a"), 0, 7, 1, nil}, {point(0, "z", 7, 9), join("a"), 0, 7, 9, nil},
	} {
		isResp(t, fmt.Sprint(c.x, c.q), flock.Answer(groups(), c.x, c.q), c.code, c.off, c.gen, c.parts...)
	}
	isResp(t, "of no groups", flock.Answer(nil, turn("g", 1, 4, "a"), join("a")), api.OK, 0, 0)
	isResp(t, "of four groups", flock.Answer(four(), no(0), request(api.ReqJoin, "z9", "9")), api.OK, 0, 12, 2)
}

func TestAnswerOfNone(t *testing.T) {
	for _, kind := range []int{0, api.ReqJoin, api.ReqLeave, api.ReqCommit, api.ReqBeat} {
		q := commit("g", "a", 3, 1, 9)
		q.Kind = kind
		for _, x := range malformed() {
			isResp(t, fmt.Sprintf("%.100v", x), flock.Answer(groups(), x, q), api.ErrForm, 0, 0)
		}
		for _, x := range []api.Rec{{Key: "x"}, {Key: "k", Val: "v"}, {Key: "tgg"}, {Key: "m", Val: "li0ee"}, {Key: "o", Val: "li0ee"}} {
			isResp(t, fmt.Sprint(x), flock.Answer(groups(), x, q), api.ErrForm, 0, 0)
		}
	}
}

func TestLookBeat(t *testing.T) {
	for _, c := range []struct {
		list []api.Flock
		q    api.Req
		code api.Errno
		gen  int
		part []int
	}{
		{groups(), beat("g", "a", 3), 0, 3, []int{1}}, {groups(), beat("g", "d", 3), 0, 3, []int{3}}, {groups(), beat("k", "m", 1), 0, 1, []int{1}},
		{four(), beat("b", "m", 1), 0, 1, []int{1, 2, 3}}, {four(), beat("z9", "zzzzzzzz", 12), 0, 12, nil}, {four(), beat("0", "a", 9), 0, 9, nil},
		{four(), beat("b", "m", 2), 30, 1, []int{1, 2, 3}}, {four(), beat("0", "a", 8), 30, 9, nil},
		{groups(), beat("g", "c", 3), 31, 0, nil}, {groups(), beat("g", "", 3), 31, 0, nil}, {groups(), beat("g", "A", 3), 31, 0, nil}, {groups(), beat("a", "x", 2), 31, 0, nil}, {groups(), beat("a", "", 2), 31, 0, nil},
		{groups(), beat("h", "a", 3), 31, 0, nil}, {groups(), beat("h", "a", 0), 31, 0, nil}, {groups(), beat("", "", 0), 31, 0, nil}, {nil, beat("g", "a", 1), 31, 0, nil}, {nil, beat("", "", 0), 31, 0, nil},
	} {
		isResp(t, fmt.Sprint(c.list, c.q), flock.Look(c.list, c.q), c.code, 0, c.gen, c.part...)
	}
	for _, gen := range numbers {
		code := api.ErrTurn
		if gen == 3 {
			code = api.OK
		}
		isResp(t, fmt.Sprint(gen), flock.Look(groups(), beat("g", "a", gen)), code, 0, 3, 1)
		isResp(t, fmt.Sprint(gen), flock.Look(groups(), beat("g", "c", gen)), api.ErrMember, 0, 0)
	}
	for _, s := range odd {
		isResp(t, s, flock.Look(groups(), beat("g", s, 3)), api.ErrMember, 0, 0)
		isResp(t, s, flock.Look(groups(), beat(s, "a", 3)), api.ErrMember, 0, 0)
	}
}

func TestLookCommitted(t *testing.T) {
	points := map[int]int{0: far, 1: 6, 3: 7}
	for _, part := range append([]int{-3, 1<<32 + 1}, numbers...) {
		code := api.ErrNone
		if _, there := points[part]; there {
			code = api.OK
		}
		isResp(t, fmt.Sprint(part), flock.Look(groups(), asked("g", part)), code, points[part], 0)
		isResp(t, "without points", flock.Look(groups(), asked("a", part)), api.ErrNone, 0, 0)
		isResp(t, "no group", flock.Look(groups(), asked("h", part)), api.ErrNone, 0, 0)
		isResp(t, "no name", flock.Look(groups(), asked("", part)), api.ErrNone, 0, 0)
		isResp(t, "no groups", flock.Look(nil, asked("g", part)), api.ErrNone, 0, 0)
	}
	// An offset of 0 is one. Neither member nor generation is asked.
	isResp(t, "0", flock.Look(four(), asked("b", 1)), api.OK, 0, 0)
	q := asked("b", 2)
	q.Gen, q.Member, q.Off = 99, "A", -1
	isResp(t, "others' fields", flock.Look(four(), q), api.OK, 5, 0)
}

func TestLookElse(t *testing.T) {
	for _, kind := range append([]int{api.ReqProduce, api.ReqFetch, api.ReqJoin, api.ReqLeave, api.ReqCommit, api.ReqCreate, 9, 99}, numbers...) {
		if kind == api.ReqBeat || kind == api.ReqCommitted {
			continue
		}
		q := commit("g", "a", 3, 1, 9)
		q.Kind = kind
		isResp(t, fmt.Sprint(kind), flock.Look(groups(), q), api.ErrArg, 0, 0)
		isResp(t, fmt.Sprint(kind), flock.Look(nil, q), api.ErrArg, 0, 0)
	}
}

// Client and N are the request's, whatever they are.
func TestWhoAsks(t *testing.T) {
	for _, n := range numbers {
		for _, kind := range []int{0, api.ReqJoin, api.ReqBeat, api.ReqCommit, api.ReqCommitted} {
			q := api.Req{Client: n, N: n - 1, Kind: kind, Group: "g", Member: "a"}
			answers := []api.Resp{flock.Look(groups(), q), flock.Look(nil, q)}
			for _, x := range append(right(), api.Rec{Key: "x"}) {
				answers = append(answers, flock.Answer(groups(), x, q))
			}
			for _, a := range answers {
				if a.Client != n || a.N != n-1 {
					t.Fatal(q, a)
				}
			}
		}
	}
}

// spoil changes all that a list of groups holds, and its spare room.
func spoil(list []api.Flock) {
	for i, g := range list {
		for j := range g.Members {
			g.Members[j] = "spoilt"
		}
		for j := range g.Points {
			g.Points[j] = api.Point{Part: -1}
		}
		_, _ = append(g.Members, "spoilt"), append(g.Points, api.Point{Part: -1})
		list[i] = api.Flock{Name: "spoilt"}
	}
	_ = append(list, api.Flock{Name: "spoilt"})
}

// roomy is a list whose parts all have spare room, which is marked.
func roomy(list []api.Flock) []api.Flock {
	room := make([]api.Flock, len(list)+2)
	copy(room, list)
	room[len(list)].Name = "spare"
	for i, g := range list {
		room[i].Members = append(slices.Clone(g.Members), "spare", "spare")[:len(g.Members)]
		room[i].Points = append(slices.Clone(g.Points), api.Point{Part: -1}, api.Point{Part: -1})[:len(g.Points)]
	}
	return room[:len(list)]
}

func isRoom(t *testing.T, what string, list, want []api.Flock) {
	t.Helper()
	isGroups(t, what, list, want)
	if list[:len(list)+1][len(list)].Name != "spare" {
		t.Error(what, "the list's spare room is written")
	}
	for _, g := range list {
		if g.Members[:len(g.Members)+1][len(g.Members)] != "spare" || g.Points[:len(g.Points)+1][len(g.Points)].Part != -1 {
			t.Error(what, "spare room is written", g)
		}
	}
}

// What is handed in is neither changed nor kept, its spare room neither.
func TestWhatIsHandedInIsNotKept(t *testing.T) {
	records := append(right(), turn("k", 2, 4), turn("a", 3, 4, "a"), turn("0", 1, 4, "a"), turn("z", 1, 4, "a"), point(3, "k", 1, 1), point(0, "g", 1, 3), api.Rec{Key: "x"})
	requests := []api.Req{request(api.ReqJoin, "g", "0"), request(api.ReqJoin, "g", "c"), request(api.ReqJoin, "g", "e"), request(api.ReqJoin, "a", "e"), request(api.ReqLeave, "g", "a"), request(api.ReqLeave, "g", "d"), request(api.ReqLeave, "k", "m"), commit("g", "a", 3, 1, 9), beat("g", "a", 3), asked("g", 3)}
	for _, x := range records {
		list := roomy(groups())
		got := flock.Apply(list, x)
		isRoom(t, fmt.Sprint(x), list, groups())
		want := deep(got)
		spoil(list)
		isGroups(t, "Apply keeps its list", got, want)
		again := flock.Apply(want, x)
		spoil(got)
		isGroups(t, "two answers are one", flock.Apply(want, x), again)
	}
	for _, q := range requests {
		list := roomy(groups())
		x := flock.Decide(list, 4, q)
		a, b := flock.Answer(list, x, q), flock.Look(list, q)
		isRoom(t, fmt.Sprint(q), list, groups())
		c := flock.Answer(list, x, q)
		for i := range a.Parts {
			a.Parts[i] = 99
		}
		if len(a.Parts) > 0 && slices.Equal(a.Parts, c.Parts) {
			t.Error("two answers are one", q)
		}
		d := flock.Look(list, q)
		for i := range b.Parts {
			b.Parts[i] = 99
		}
		if len(b.Parts) > 0 && slices.Equal(b.Parts, d.Parts) {
			t.Error("two answers are one", q)
		}
	}
}

// What is answered is new memory, that of records that say nothing, too; no two lists of an answer share any.
func TestAnswersAreNew(t *testing.T) {
	for _, x := range []api.Rec{{}, no(0), turn("g", 9, 4), turn("g", 4, 4, "a"), turn("b", 1, 4, "a"), point(1, "g", 9, 3), point(1, "g", 9, 2)} {
		list := groups()
		want := deep(flock.Apply(list, x))
		spoil(flock.Apply(list, x))
		isGroups(t, fmt.Sprint(x), list, groups())
		isGroups(t, fmt.Sprint(x), flock.Apply(list, x), want)
	}
	records := story()
	list := flock.Fold(records)
	for i := range list {
		// Each group is spoilt alone: the others stay.
		others := deep(list)
		spoil(list[i : i+1 : i+1])
		list[i] = others[i]
		isGroups(t, fmt.Sprint(i), list[:i], others[:i])
		isGroups(t, fmt.Sprint(i), list[i+1:], others[i+1:])
		list = flock.Fold(records)
	}
	for i := range records {
		records[i] = api.Rec{Key: "spoilt"}
	}
	isGroups(t, "behind spoilt records", list, groups())
	isGroups(t, "another Fold", flock.Fold(story()), groups())
}

// No call panics, and each ends, whatever it is given.
func TestAny(t *testing.T) {
	lists := [][]api.Flock{
		nil, {{}}, make([]api.Flock, 9), {{Name: "g", Gen: math.MaxInt, Parts: math.MaxInt, Members: []string{"b", "a", "", "b"}, Points: []api.Point{{Part: 3}, {Part: -1}, {Part: 3}}}},
		{group("z", -1, -1, "b a"), group("g", 3, 9, "a b c d e f"), group("a", 0, 0, ""), group("g", math.MinInt, 4, "a")},
		append(four(), four()...), append(groups(), group("g", 3, 4, "a")),
	}
	requests := []api.Req{{}}
	for _, s := range append([]string{"g", "a", "z"}, odd...) {
		for kind := -1; kind <= 9; kind++ {
			for _, n := range numbers {
				requests = append(requests, api.Req{Kind: kind, Part: n, Off: n, Gen: n, Group: "g", Member: s}, api.Req{Kind: kind, Part: 1, Gen: n, Group: s, Member: "a"})
			}
		}
	}
	records := append(malformed(), right()...)
	for _, n := range numbers {
		records = append(records, turn("g", n, 4, "a"), point(1, "g", 1, n), no(api.Errno(n)))
	}
	for _, list := range lists {
		for _, x := range records {
			flock.Apply(list, x)
			flock.Answer(list, x, request(api.ReqJoin, "g", "a"))
		}
		for _, q := range requests {
			for _, parts := range []int{math.MinInt, 4, math.MaxInt} {
				flock.Decide(list, parts, q)
			}
			flock.Look(list, q)
		}
	}
	flock.Fold(records)
}

// told is what a record tells, read by another way than the package's.
type told struct {
	kind    byte // 't', 'c', 'n', else 0
	name    string
	gen     int
	parts   int
	members []string
	part    int
	off     int
	code    int
}

const (
	numberForm = `i(0|-?[1-9][0-9]*)e`
	nameForm   = `[0-9a-z]{1,8}`
	memberForm = `1:[0-9a-z]|2:[0-9a-z]{2}|3:[0-9a-z]{3}|4:[0-9a-z]{4}|5:[0-9a-z]{5}|6:[0-9a-z]{6}|7:[0-9a-z]{7}|8:[0-9a-z]{8}`
)

var (
	turnForm  = regexp.MustCompile(`^t(` + nameForm + `)!l` + numberForm + `i([0-4])el((?:` + memberForm + `){0,4})ee$`)
	pointForm = regexp.MustCompile(`^c([0-3])(` + nameForm + `)!l` + numberForm + numberForm + `e$`)
	noForm    = regexp.MustCompile(`^n!l` + numberForm + `e$`)
	oneMember = regexp.MustCompile(memberForm)
)

// tell reads a record. The forms know no !, so that it parts a key from its value.
func tell(x api.Rec) told {
	if x.Gone || strings.Contains(x.Key+x.Val, "!") {
		return told{}
	}
	right := true
	number := func(s string) int {
		n, err := strconv.Atoi(s)
		right = right && err == nil
		return n
	}
	var w told
	s := x.Key + "!" + x.Val
	if m := turnForm.FindStringSubmatch(s); m != nil {
		w = told{kind: 't', name: m[1], gen: number(m[2]), parts: number(m[3])}
		for _, member := range oneMember.FindAllString(m[4], -1) {
			w.members = append(w.members, member[2:])
		}
		right = right && slices.IsSorted(w.members) && len(slices.Compact(slices.Clone(w.members))) == len(w.members)
	}
	if m := pointForm.FindStringSubmatch(s); m != nil {
		w = told{kind: 'c', part: number(m[1]), name: m[2], off: number(m[3]), gen: number(m[4])}
		right = right && w.off >= 0 && w.off <= far
	}
	if m := noForm.FindStringSubmatch(s); m != nil {
		w = told{kind: 'n', code: number(m[1])}
	}
	if !right {
		return told{}
	}
	return w
}

// city is groups by their names, their points by their partitions.
type city map[string]*club

type club struct {
	gen, parts int
	members    []string
	points     map[int]int
}

func (c city) take(w told) {
	g := c[w.name]
	switch {
	case w.kind == 't' && g == nil && w.gen == 1 && len(c) < 4:
		c[w.name] = &club{1, w.parts, w.members, map[int]int{}}
	case w.kind == 't' && g != nil && w.gen == g.gen+1:
		g.gen, g.parts, g.members = w.gen, w.parts, w.members
	case w.kind == 'c' && g != nil && w.gen == g.gen:
		g.points[w.part] = w.off
	}
}

// list is the city as the package tells it.
func (c city) list() []api.Flock {
	var list []api.Flock
	for name, g := range c {
		f := api.Flock{Name: name, Gen: g.gen, Parts: g.parts, Members: g.members}
		for part := range 4 {
			if off, there := g.points[part]; there {
				f.Points = append(f.Points, api.Point{Part: part, Off: off})
			}
		}
		list = append(list, f)
	}
	slices.SortFunc(list, func(a, b api.Flock) int { return strings.Compare(a.Name, b.Name) })
	return list
}

// owned is what a member of a group owns: partitions are dealt one by one, and laid behind those of the members ahead.
func (c city) owned(name, member string) []int {
	g := c[name]
	if g == nil || len(g.members) == 0 {
		return nil
	}
	count := make([]int, len(g.members))
	for part := 1; part < g.parts; part++ {
		count[(part-1)%len(count)]++
	}
	next := 1
	for i, m := range g.members {
		if m == member {
			var list []int
			for range count[i] {
				list = append(list, next)
				next++
			}
			return list
		}
		next += count[i]
	}
	return nil
}

func (c city) decide(parts int, q api.Req) api.Rec {
	name := regexp.MustCompile(`^` + nameForm + `$`)
	g := c[q.Group]
	in := g != nil && slices.Contains(g.members, q.Member)
	switch {
	case q.Kind == api.ReqCommit:
		if g == nil || g.gen != q.Gen || !slices.Contains(c.owned(q.Group, q.Member), q.Part) {
			return no(api.ErrTurn)
		}
		if q.Off < 0 || q.Off > far {
			return no(api.ErrArg)
		}
		return point(q.Part, q.Group, q.Off, q.Gen)
	case q.Kind != api.ReqJoin && q.Kind != api.ReqLeave || !name.MatchString(q.Group) || !name.MatchString(q.Member):
		return no(api.ErrArg)
	case q.Kind == api.ReqLeave && !in:
		return no(api.ErrMember)
	case q.Kind == api.ReqJoin && in:
		return no(api.OK)
	case q.Kind == api.ReqJoin && (g == nil && len(c) == 4 || g != nil && len(g.members) == 4):
		return no(api.ErrMany)
	}
	if g == nil {
		g = &club{}
	}
	members := append(slices.Clone(g.members), q.Member)
	if q.Kind == api.ReqLeave {
		members = slices.DeleteFunc(members, func(m string) bool { return m == q.Member })
	}
	slices.Sort(members)
	return turn(q.Group, g.gen+1, max(0, min(parts, 4)), members...)
}

func (c city) answer(x api.Rec, q api.Req) api.Resp {
	a := api.Resp{Client: q.Client, N: q.N}
	w := tell(x)
	if w.kind == 0 {
		a.Code = api.ErrForm
	}
	if w.kind == 'c' {
		a.Off, a.Gen = w.off, w.gen
	}
	a.Code += api.Errno(w.code)
	if g := c[q.Group]; g != nil && (w.kind == 't' || w.kind == 'n' && w.code == 0 && q.Kind == api.ReqJoin) {
		a.Gen, a.Parts = g.gen, c.owned(q.Group, q.Member)
	}
	return a
}

func (c city) look(q api.Req) api.Resp {
	a := api.Resp{Client: q.Client, N: q.N, Code: api.ErrArg}
	g := c[q.Group]
	if g == nil {
		g = &club{}
	}
	switch q.Kind {
	case api.ReqBeat:
		a.Code = api.ErrMember
		if slices.Contains(g.members, q.Member) {
			a.Code, a.Gen, a.Parts = api.ErrTurn, g.gen, c.owned(q.Group, q.Member)
			if q.Gen == g.gen {
				a.Code = api.OK
			}
		}
	case api.ReqCommitted:
		a.Code = api.ErrNone
		if off, there := g.points[q.Part]; there {
			a.Code, a.Off = api.OK, off
		}
	}
	return a
}

func sameResp(a, b api.Resp) bool {
	return slices.Equal(a.Parts, b.Parts) && len(a.Recs) == 0 && a.Client == b.Client && a.N == b.N && a.Code == b.Code && a.Off == b.Off && a.High == b.High && a.Gen == b.Gen
}

// Of all that is a byte off a right record just that says something which would have been written so.
func TestEveryByte(t *testing.T) {
	q := request(api.ReqJoin, "g", "a")
	try := func(x api.Rec) {
		c := city{}
		for _, y := range story() {
			c.take(tell(y))
		}
		if a := flock.Answer(groups(), x, q); !sameResp(a, c.answer(x, q)) {
			t.Errorf("Answer of %v: %v", x, a)
		}
		c.take(tell(x))
		if list := flock.Apply(groups(), x); !alike(list, c.list()) {
			t.Errorf("Apply of %v: %v", x, list)
		}
	}
	letters := "0123456789-+:ilecnta gkz\x00\xff!"
	for _, x := range append(right(), turn("gg", 1, 3, "10", "9"), point(0, "a", 10, 2)) {
		for i := range len(x.Key) + 1 {
			for _, c := range []byte(letters) {
				try(api.Rec{Key: x.Key[:i] + string([]byte{c}) + x.Key[i:], Val: x.Val})
				if i < len(x.Key) {
					try(api.Rec{Key: x.Key[:i] + string([]byte{c}) + x.Key[i+1:], Val: x.Val})
					try(api.Rec{Key: x.Key[:i] + x.Key[i+1:], Val: x.Val})
				}
			}
		}
		for i := range len(x.Val) + 1 {
			for _, c := range []byte(letters) {
				try(api.Rec{Key: x.Key, Val: x.Val[:i] + string([]byte{c}) + x.Val[i:]})
				if i < len(x.Val) {
					try(api.Rec{Key: x.Key, Val: x.Val[:i] + string([]byte{c}) + x.Val[i+1:]})
				}
			}
		}
	}
}

// someReq is a request, mostly of groups and members that there may be.
func someReq(chance *rand.Rand, c city) api.Req {
	q := api.Req{
		Client: 1 + chance.Intn(4), N: chance.Intn(99), Kind: 2 + chance.Intn(7), Part: chance.Intn(4), Off: chance.Intn(99),
		Group: []string{"a", "g", "gg", "h", "12345678"}[chance.Intn(5)], Member: []string{"a", "aa", "b", "m", "zzzzzzzz", "0"}[chance.Intn(6)],
	}
	if g := c[q.Group]; g != nil {
		q.Gen = g.gen + []int{0, 0, 0, 0, 0, -1, 1, 2}[chance.Intn(8)]
	}
	switch chance.Intn(20) {
	case 0:
		q.Group = odd[chance.Intn(len(odd))]
	case 1:
		q.Member = odd[chance.Intn(len(odd))]
	case 2:
		q.Off = numbers[chance.Intn(len(numbers))]
	case 3:
		q.Part = numbers[chance.Intn(len(numbers))]
	case 4:
		q.Kind = numbers[chance.Intn(len(numbers))]
	}
	return q
}

// someRec is a record that nobody decided: it may say something, or not.
func someRec(chance *rand.Rand, c city, odds []api.Rec) api.Rec {
	q := someReq(chance, c)
	switch chance.Intn(4) {
	case 0:
		return odds[chance.Intn(len(odds))]
	case 1:
		return turn(q.Group, q.Gen+1, chance.Intn(6), []string{"a", "b", "m", "zz", "zzz"}[:chance.Intn(6)]...)
	case 2:
		return point(q.Part, q.Group, q.Off, q.Gen)
	}
	return c.decide(4, q)
}

// By a model: whatever is asked, the same is decided, told, and kept. Generations rise one by one; a commit is taken just of the owner, in its generation.
func TestSteps(t *testing.T) {
	chance := rand.New(rand.NewSource(1111))
	odds := malformed()
	taken := map[api.Errno]int{}
	for range 300 {
		var list []api.Flock
		var log []api.Rec
		c := city{}
		for range 60 {
			q := someReq(chance, c)
			parts := []int{4, 4, 4, 3, 2, 1, 0, -1, 5}[chance.Intn(9)]
			x := flock.Decide(list, parts, q)
			if want := c.decide(parts, q); x != want {
				t.Fatalf("Decide of %.200v, %d: %v, want %v", q, parts, x, want)
			}
			if chance.Intn(6) == 0 {
				x = someRec(chance, c, odds)
			} else if q.Kind == api.ReqCommit {
				isCommit(t, list, q, x)
			}
			was := list
			list = flock.Apply(list, x)
			c.take(tell(x))
			log = append(log, x)
			isNext(t, was, list)
			if !alike(list, c.list()) {
				t.Fatalf("Apply of %.200v: %v, want %v", x, list, c.list())
			}
			if a, want := flock.Answer(list, x, q), c.answer(x, q); !sameResp(a, want) {
				t.Fatalf("Answer of %.200v, %.200v: %v, want %v", x, q, a, want)
			} else {
				taken[a.Code]++
			}
			if a, want := flock.Look(list, q), c.look(q); !sameResp(a, want) {
				t.Fatalf("Look of %.200v: %v, want %v", q, a, want)
			}
		}
		isGroups(t, "Fold", flock.Fold(log), list)
	}
	for _, code := range []api.Errno{api.OK, api.ErrArg, api.ErrForm, api.ErrTurn, api.ErrMember, api.ErrMany} {
		if taken[code] < 10 {
			t.Error("seldom:", code, taken[code])
		}
	}
}

// isCommit: a commit is taken just if its generation is the group's, and its member the owner, as a beat tells it.
func isCommit(t *testing.T, list []api.Flock, q api.Req, x api.Rec) {
	t.Helper()
	b := q
	b.Kind = api.ReqBeat
	a := flock.Look(list, b)
	owner := a.Code == api.OK && slices.Contains(a.Parts, q.Part)
	if took := x.Key[0] == 'c'; took != (owner && q.Off >= 0 && q.Off <= far) {
		t.Error(list, q, x)
	}
}

// isNext: the groups rise by their names, are at most four, none is gone, and at most one of them has a generation more.
func isNext(t *testing.T, was, list []api.Flock) {
	t.Helper()
	rises := slices.IsSortedFunc(list, func(a, b api.Flock) int {
		if a.Name < b.Name {
			return -1
		}
		return 1
	})
	gens := map[string]int{}
	more := 0
	for _, g := range list {
		gens[g.Name] = g.Gen
		more += g.Gen
	}
	for _, g := range was {
		if gens[g.Name] < g.Gen {
			t.Error("a generation is gone:", was, list)
		}
		more -= g.Gen
	}
	if !rises || len(list) > api.MaxGroups || more < 0 || more > 1 {
		t.Error(was, list)
	}
}

// A long log is told record by record, not anew for each.
func TestLongFold(t *testing.T) {
	var log []api.Rec
	for i := range 1 << 17 {
		log = append(log, turn("g", i+1, 4, "a", "b"), point(1+i%3, "g", i, i+1))
	}
	n := 1 << 17
	isGroups(t, "long", flock.Fold(log), []api.Flock{group("g", n, 4, "a b", 1, n-2, 2, n-1, 3, n-3)})
}
