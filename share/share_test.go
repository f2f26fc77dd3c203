package share_test

import (
	"fmt"
	"math"
	"math/rand"
	"slices"
	"strings"
	"testing"

	"heliograph/api"
	"heliograph/share"
)

// numbers are those at the ends of their type, and around those that the chapter names.
var numbers = []int{math.MinInt, math.MinInt + 1, math.MinInt32, -4, -2, -1, 0, 1, 2, 3, 4, 5, 6, 255, 256, math.MaxInt32, 1 << 32, 1<<32 + 1, 1<<32 + 4, math.MaxInt - 1, math.MaxInt}

// groups are lists of members.
var groups = [][]string{
	nil, {}, {"a"}, {"z"}, {"0"}, {"9"}, {"abcdefgh"}, {"12345678"}, {"a", "b"}, {"0", "a"}, {"9", "a"}, {"a", "a0"}, {"a", "aa"}, {"az", "b"}, {"10", "9"},
	{"zzzzzzzy", "zzzzzzzz"}, {"a", "b", "c"}, {"m1", "m2", "m3", "m4"}, {"0", "00", "000", "0000"}, {"aaaaaaaa", "b", "cc", "dddddddd"},
}

// mobs are lists that no group can have as its members.
var mobs = [][]string{
	{""}, {"", "a"}, {"a", ""}, {"123456789"}, {"abcdefghi"}, {"a", "bbbbbbbbb"}, {"aaaaaaaaa", "b"}, {strings.Repeat("a", 1<<20)},
	{"A"}, {"Z"}, {"aB"}, {"a", "bC"}, {"-"}, {"a-"}, {"_"}, {"a b"}, {" "}, {"a "}, {" a"}, {"a\n"}, {"\x00"}, {"a\x00"}, {"\xff"}, {"a\xe9"}, {"é"}, {"aé"}, {"\u0663"}, {"\uff41"},
	{"/"}, {":"}, {"`"}, {"{"}, {"@"}, {"["}, {"1."},
	{"a", "a"}, {"b", "a"}, {"aa", "a"}, {"9", "10"}, {"a", "9"}, {"a", "b", "b"}, {"a", "c", "b"}, {"b", "a", "c"}, {"a", "b", "a"}, {"a", "b", "c", "c"}, {"a", "b", "d", "c"}, {"a", "a", "b", "c"}, {"d", "c", "b", "a"},
	{"a", "b", "c", "d", "e"}, {"a", "a", "a", "a", "a"}, {"", "", "", "", ""}, {"a", "b", "c", "d", "e", "f"},
}

// tell writes owners as they are told: 1a 2a 3b.
func tell(owners []api.Owner) string {
	var words []string
	for _, o := range owners {
		words = append(words, fmt.Sprint(o.Part, o.Member))
	}
	return strings.Join(words, " ")
}

func TestExample(t *testing.T) {
	// The chapter's example has parts of 5, one more than MaxParts, of which P10.1 has nothing: these have a partition less.
	if s := tell(share.Assign(4, []string{"a", "b", "c"})); s != "1a 2b 3c" {
		t.Error(s)
	}
	if s := tell(share.Assign(5, []string{"a", "b", "c"})); s != "" {
		t.Error(s)
	}
}

func TestGood(t *testing.T) {
	for _, members := range groups {
		if !share.Good(members) {
			t.Errorf("%q", members)
		}
	}
	for _, members := range mobs {
		if share.Good(members) {
			t.Errorf("%.40q", members)
		}
	}
	if share.Good(make([]string, 1<<20)) {
		t.Error("many")
	}
}

// Each byte, at each place of a name.
func TestLetters(t *testing.T) {
	const letters = "0123456789abcdefghijklmnopqrstuvwxyz"
	for c := range 256 {
		want := strings.IndexByte(letters, byte(c)) >= 0
		for size := 1; size <= 9; size++ {
			for at := range size {
				name := []byte(strings.Repeat("m", size))
				name[at] = byte(c)
				for _, members := range [][]string{{string(name)}, {"0", string(name)}, {string(name), "zz"}} {
					rises := len(members) == 1 || members[0] < members[1]
					if got := share.Good(members); got != (want && size <= 8 && rises) {
						t.Fatalf("%q %v", members, got)
					}
				}
			}
		}
	}
}

// Two names rise as bytes do, not as numbers, nor by their lengths.
func TestRising(t *testing.T) {
	rising := []string{"0", "00", "01", "10", "9", "99999999", "a", "a0", "a9", "aa", "aaaaaaaa", "ab", "b", "m1", "m2", "z", "z0", "zz", "zzzzzzzz"}
	for i, a := range rising {
		for k, b := range rising {
			if share.Good([]string{a, b}) != (i < k) {
				t.Error(a, b)
			}
			for n, c := range rising {
				if share.Good([]string{a, b, c}) != (i < k && k < n) {
					t.Error(a, b, c)
				}
				if share.Good([]string{"", a, b, c}) || share.Good([]string{a, b, c, "A"}) {
					t.Error(a, b, c)
				}
			}
		}
	}
}

func TestAssign(t *testing.T) {
	for members, want := range map[string][]string{
		"a":       {"", "", "1a", "1a 2a", "1a 2a 3a"},
		"a b":     {"", "", "1a", "1a 2b", "1a 2a 3b"},
		"a b c":   {"", "", "1a", "1a 2b", "1a 2b 3c"},
		"a b c d": {"", "", "1a", "1a 2b", "1a 2b 3c"}, // more members than partitions
		"10 9":    {"", "", "110", "110 29", "110 210 39"},
	} {
		for parts, s := range want {
			if got := tell(share.Assign(parts, strings.Fields(members))); got != s {
				t.Error(parts, members, got)
			}
		}
	}
}

// Neither of parts beyond 0 to MaxParts, nor of no members, nor of what aren't members.
func TestAssignOfNone(t *testing.T) {
	none := func(parts int, members []string) {
		t.Helper()
		if got := share.Assign(parts, members); len(got) != 0 {
			t.Fatalf("%d %.40q %v", parts, members, got)
		}
		for _, part := range numbers {
			if m, ok := share.Owner(parts, members, part); m != "" || ok {
				t.Fatalf("%d %.40q %d %q %v", parts, members, part, m, ok)
			}
		}
		for _, member := range append([]string{"", "a", "b", "A"}, members[:min(len(members), 9)]...) {
			if got := share.Parts(parts, members, member); len(got) != 0 {
				t.Fatalf("%d %.40q %.40q %v", parts, members, member, got)
			}
		}
	}
	for _, parts := range numbers {
		none(parts, nil)
		none(parts, []string{})
		for _, members := range mobs {
			none(parts, members)
		}
		if parts >= 2 && parts <= api.MaxParts {
			continue
		}
		for _, members := range groups {
			none(parts, members)
		}
	}
}

func TestOwner(t *testing.T) {
	for _, c := range []struct {
		parts   int
		members string
		part    int
		want    string
	}{
		{4, "a", 1, "a"}, {4, "a", 3, "a"}, {4, "a b", 1, "a"}, {4, "a b", 2, "a"}, {4, "a b", 3, "b"}, {3, "a b", 2, "b"}, {2, "a b", 1, "a"},
		{4, "a b c", 3, "c"}, {4, "a b c d", 1, "a"}, {4, "a b c d", 3, "c"},
		{4, "a b", 0, ""}, {4, "a b", 4, ""}, {4, "a b", 5, ""}, {4, "a b", -1, ""}, {4, "a b", -4, ""}, {4, "a b", math.MinInt, ""}, {4, "a b", math.MaxInt, ""}, {4, "a b", 1<<32 + 1, ""},
		{3, "a b", 3, ""}, {2, "a b", 2, ""}, {2, "a b", 0, ""}, {1, "a b", 1, ""}, {1, "a b", 0, ""}, {0, "a b", 0, ""}, {0, "a b", -1, ""}, {0, "a b", 1, ""},
		{5, "a b", 1, ""}, {-1, "a b", 1, ""}, {-4, "a b", -2, ""}, {4, "b a", 1, ""}, {4, "a a", 1, ""}, {4, "A", 1, ""}, {4, "", 1, ""}, {4, "a b c d e", 1, ""},
	} {
		m, ok := share.Owner(c.parts, strings.Fields(c.members), c.part)
		if m != c.want || ok != (c.want != "") {
			t.Error(c, m, ok)
		}
	}
}

func TestParts(t *testing.T) {
	for _, c := range []struct {
		parts   int
		members string
		member  string
		want    []int
	}{
		{4, "a", "a", []int{1, 2, 3}}, {4, "a b", "a", []int{1, 2}}, {4, "a b", "b", []int{3}}, {3, "a b", "b", []int{2}}, {2, "a b", "a", []int{1}}, {2, "a b", "b", nil},
		{4, "a b c", "b", []int{2}}, {4, "a b c d", "c", []int{3}}, {4, "a b c d", "d", nil}, // more members than partitions
		{1, "a", "a", nil}, {0, "a", "a", nil}, {-1, "a", "a", nil}, {5, "a", "a", nil},
		{4, "a b", "c", nil}, {4, "a b", "", nil}, {4, "a b", "A", nil}, {4, "a b", "aa", nil}, {4, "ab", "a", nil}, {4, "a b", "a ", nil}, {4, "a b", "0", nil},
		{4, "", "", nil}, {4, "", "a", nil}, {4, "b a", "a", nil}, {4, "a a", "a", nil}, {4, "A", "A", nil}, {4, "a b c d e", "a", nil},
	} {
		if got := share.Parts(c.parts, strings.Fields(c.members), c.member); !slices.Equal(got, c.want) {
			t.Error(c, got)
		}
	}
}

// assign: partitions are dealt to the members one by one, and each one's number of them is laid behind those of the members ahead.
func assign(parts int, members []string) []api.Owner {
	if len(members) == 0 || parts > 4 {
		return nil
	}
	owned := make([]int, len(members))
	for part := 1; part < parts; part++ {
		owned[(part-1)%len(members)]++
	}
	var owners []api.Owner
	part := 1
	for i, member := range members {
		for range owned[i] {
			owners = append(owners, api.Owner{Part: part, Member: member})
			part++
		}
	}
	return owners
}

// Owner and Parts are by Assign, at all numbers, and whoever is asked for.
func TestAll(t *testing.T) {
	for _, members := range groups {
		for _, parts := range numbers {
			owners := assign(parts, members)
			if got := share.Assign(parts, members); !slices.Equal(got, owners) {
				t.Fatal(parts, members, got)
			}
			for _, part := range numbers {
				want := ""
				for _, o := range owners {
					if o.Part == part {
						want = o.Member
					}
				}
				if m, ok := share.Owner(parts, members, part); m != want || ok != (want != "") {
					t.Fatal(parts, members, part, m, ok)
				}
			}
			for _, member := range append([]string{"", "a", "b", "m3", "9", "A", "é", "a\x00"}, members...) {
				var want []int
				for _, o := range owners {
					if o.Member == member {
						want = append(want, o.Part)
					}
				}
				if got := share.Parts(parts, members, member); !slices.Equal(got, want) {
					t.Fatal(parts, members, member, got)
				}
			}
		}
	}
}

// Each partition has just one owner; members' numbers part by one at most; each one's stand one behind the other, ahead of those of greater members.
func TestShares(t *testing.T) {
	chance := rand.New(rand.NewSource(1010))
	for range 5000 {
		parts, members := chance.Intn(api.MaxParts+1), someMembers(chance)
		if !share.Good(members) {
			t.Fatal(members)
		}
		next, least, most := 1, api.MaxParts, 0
		for _, member := range members {
			owned := share.Parts(parts, members, member)
			for _, part := range owned {
				if m, ok := share.Owner(parts, members, part); part != next || m != member || !ok {
					t.Fatal(parts, members, member, owned, m, ok)
				}
				next++
			}
			if len(owned) > least {
				t.Fatal("who is behind owns more:", parts, members, member)
			}
			least, most = min(least, len(owned)), max(most, len(owned))
		}
		if next != max(parts, 1) || most-least > 1 {
			t.Fatal(parts, members, next, least, most)
		}
		if got := share.Assign(parts, members); len(got) != next-1 {
			t.Fatal(parts, members, got)
		}
	}
}

// someMembers are one to four names, rising.
func someMembers(chance *rand.Rand) []string {
	var members []string
	for range 1 + chance.Intn(api.MaxMembers) {
		name := ""
		for range 1 + chance.Intn(api.MaxWord) {
			name += string("0189abyz"[chance.Intn(8)])
		}
		members = append(members, name)
	}
	slices.Sort(members)
	return slices.Compact(members)
}

// What is handed in isn't written, its spare room neither; two answers share nothing.
func TestMemory(t *testing.T) {
	room := []string{"a", "b", "spare", "room"}
	members := room[:2]
	owners, other := share.Assign(4, members), share.Assign(4, members)
	parts, another := share.Parts(4, members, "a"), share.Parts(4, members, "a")
	share.Good(members)
	share.Owner(4, members, 2)
	for i := range owners {
		owners[i] = api.Owner{Part: 9, Member: "other"}
	}
	for i := range parts {
		parts[i] = 9
	}
	_, _ = append(owners, api.Owner{Part: 8}), append(parts, 8)
	if tell(other) != "1a 2a 3b" || !slices.Equal(another, []int{1, 2}) {
		t.Error("two answers are one:", other, another)
	}
	if !slices.Equal(room, []string{"a", "b", "spare", "room"}) {
		t.Error("what is handed in is written:", room)
	}
	members[0], members[1] = "x", "y"
	if tell(other) != "1a 2a 3b" || tell(share.Assign(4, members)) != "1x 2x 3y" {
		t.Error("what is handed in is kept:", other)
	}
}
