package plan_test

import (
	"fmt"
	"math"
	"math/rand"
	"regexp"
	"slices"
	"strconv"
	"strings"
	"testing"

	"heliograph/api"
	"heliograph/plan"
)

const late = 1 << 30 // MaxEpoch

// numbers are those at the ends of their type, and around those that the chapter names.
var numbers = []int{math.MinInt, math.MinInt + 1, math.MinInt32, -late, -6, -5, -2, -1, 0, 1, 2, 3, 4, 5, 6, 7, 255, 256, late - 1, late, late + 1, math.MaxInt32, 1 << 32, 1<<32 + 1, 1<<32 + 2, math.MaxInt - 1, math.MaxInt}

// kinds are those of events, and what is none.
var kinds = append([]int{8, 9, 1<<32 + 4}, numbers...)

// The words in which these tests write plans: "3 2 | 1:12 4:2+1 | 1=5 3=1" has 3 nodes, 2 copies; the partition 0 in the epoch 1 with the chain 1, 2; the partition 1 in the epoch 4 with the chain 2 and the learner 1; the node 1 in the life 5, the node 3 in the life 1.
func tell(p api.Plan) string {
	var s strings.Builder
	fmt.Fprint(&s, p.Nodes, " ", p.Copies, " |")
	for _, x := range p.Parts {
		fmt.Fprint(&s, " ", tellPlace(x))
	}
	s.WriteString(" |")
	for _, x := range p.Lives {
		fmt.Fprintf(&s, " %d=%d", x.Node, x.Life)
	}
	return s.String()
}

func tellPlace(x api.Part) string {
	s := fmt.Sprintf("%d:", x.Epoch)
	for _, node := range x.Chain {
		s += strconv.Itoa(node)
	}
	if x.Learner != 0 {
		s += fmt.Sprintf("+%d", x.Learner)
	}
	return s
}

// of reads such words. All its lists have spare room, which is marked.
func of(s string) api.Plan {
	words := strings.Split(s, "|")
	number := func(s string) int {
		n, err := strconv.Atoi(s)
		if err != nil {
			panic(s)
		}
		return n
	}
	layout := strings.Fields(words[0])
	p := api.Plan{Nodes: number(layout[0]), Copies: number(layout[1])}
	for _, word := range strings.Fields(words[1]) {
		epoch, rest, _ := strings.Cut(word, ":")
		chain, learner, learns := strings.Cut(rest, "+")
		x := api.Part{Epoch: number(epoch)}
		for _, c := range chain {
			x.Chain = append(x.Chain, int(c-'0'))
		}
		if learns {
			x.Learner = number(learner)
		}
		x.Chain = spare(x.Chain, -7)
		p.Parts = append(p.Parts, x)
	}
	for _, word := range strings.Fields(words[2]) {
		node, life, _ := strings.Cut(word, "=")
		p.Lives = append(p.Lives, api.Life{Node: number(node), Life: number(life)})
	}
	p.Parts, p.Lives = spare(p.Parts, api.Part{Epoch: -7}), spare(p.Lives, api.Life{Node: -7})
	return p
}

// spare is a list with the mark in its spare room.
func spare[T any](list []T, mark T) []T {
	room := append(slices.Clone(list), mark, mark)
	return room[: len(list) : len(list)+2]
}

func boot(node, life int) api.Event { return api.Event{Kind: api.EvBoot, Node: node, N: life} }

func dead(node int) api.Event { return api.Event{Kind: api.EvDead, Node: node} }

func ready(node, part, epoch int) api.Event {
	return api.Event{Kind: api.EvReady, Node: node, Part: part, N: epoch}
}

func create() api.Event { return api.Event{Kind: api.EvCreate} }

func join(node, part int) api.Event { return api.Event{Kind: api.EvJoin, Node: node, Part: part} }

// isApplied: the plan behind an event, and the partitions whose places are others.
func isApplied(t *testing.T, was string, x api.Event, want string, turned ...int) {
	t.Helper()
	p := of(was)
	got, list, e := plan.Apply(p, x)
	if tell(got) != want || !slices.Equal(list, turned) || e != api.OK {
		t.Errorf("%s, %v: %s, %v, %d, want %s, %v", was, x, tell(got), list, e, want, turned)
	}
	if tell(p) != was {
		t.Errorf("%s, %v: what was handed in is %s", was, x, tell(p))
	}
}

// isRefused: beside an error all else is zero.
func isRefused(t *testing.T, p api.Plan, x api.Event, want api.Errno) {
	t.Helper()
	was := tell(p)
	got, list, e := plan.Apply(p, x)
	if e != want || len(list) > 0 || !isZero(got) {
		t.Errorf("%.200s, %v: %s, %v, %d, want %d", was, x, tell(got), list, e, want)
	}
	if tell(p) != was {
		t.Errorf("%.200s, %v: what was handed in is %.200s", was, x, tell(p))
	}
}

func isZero(p api.Plan) bool {
	return p.Nodes == 0 && p.Copies == 0 && len(p.Parts) == 0 && len(p.Lives) == 0
}

func TestExample(t *testing.T) {
	p, e := plan.New(api.Config{Nodes: 3, Copies: 2, Parts: 2})
	if tell(p) != "3 2 | 1:12 1:23 |" || e != api.OK {
		t.Error(tell(p), e)
	}
	isApplied(t, "3 2 | 1:12 1:23 |", dead(2), "3 2 | 2:1 2:3 |", 0, 1)
}

func TestNew(t *testing.T) {
	for _, c := range []struct {
		nodes, copies, parts int
		want                 string
	}{
		{1, 1, 2, "1 1 | 1:1 1:1 |"},
		{1, 1, 4, "1 1 | 1:1 1:1 1:1 1:1 |"},
		{2, 1, 3, "2 1 | 1:1 1:2 1:1 |"},
		{2, 2, 4, "2 2 | 1:12 1:21 1:12 1:21 |"},
		{3, 1, 4, "3 1 | 1:1 1:2 1:3 1:1 |"},
		{3, 2, 4, "3 2 | 1:12 1:23 1:31 1:12 |"},
		{3, 3, 3, "3 3 | 1:123 1:231 1:312 |"},
		{4, 3, 4, "4 3 | 1:123 1:234 1:341 1:412 |"},
		{4, 4, 2, "4 4 | 1:1234 1:2341 |"},
		{5, 1, 4, "5 1 | 1:1 1:2 1:3 1:4 |"},
		{5, 2, 4, "5 2 | 1:12 1:23 1:34 1:45 |"},
		{5, 3, 4, "5 3 | 1:123 1:234 1:345 1:451 |"},
		{5, 5, 4, "5 5 | 1:12345 1:23451 1:34512 1:45123 |"},
	} {
		p, e := plan.New(api.Config{Nodes: c.nodes, Copies: c.copies, Parts: c.parts})
		if tell(p) != c.want || e != api.OK {
			t.Error(tell(p), e, "want", c.want)
		}
	}
}

// Each layout that can be has a plan, which is one; all others have ErrArg.
func TestNewNumbers(t *testing.T) {
	for _, nodes := range numbers {
		for _, copies := range numbers {
			for _, parts := range numbers {
				p, e := plan.New(api.Config{Nodes: nodes, Copies: copies, Parts: parts})
				can := nodes > 0 && nodes < 6 && copies > 0 && copies <= nodes && parts > 1 && parts < 5
				if !can && (e != api.ErrArg || !isZero(p)) {
					t.Fatal(nodes, copies, parts, tell(p), e)
				}
				if !can {
					continue
				}
				if e != api.OK || !plan.Good(p) || tell(p) != begun(nodes, copies, parts).tell() || len(p.Lives) > 0 {
					t.Fatal(nodes, copies, parts, tell(p), e)
				}
			}
		}
	}
}

// What else a city's layout has plays no part.
func TestNewOfOthers(t *testing.T) {
	for _, n := range numbers {
		p, e := plan.New(api.Config{Nodes: 3, Copies: 2, Parts: 2, Clients: n, Seg: n, Keep: n, Horizon: n, Room: n})
		if tell(p) != "3 2 | 1:12 1:23 |" || e != api.OK {
			t.Error(n, tell(p), e)
		}
	}
}

// right are plans: each edge that the chapter names is in one of them.
var right = []string{
	"1 1 | 1:1 1:1 |",
	"1 1 | 1:1 1:1 1:1 1:1 | 1=1",
	"1 1 | 1073741824:1 1073741823:1 | 1=1073741824",
	"2 1 | 1:1 1:2 |",
	"2 2 | 2:21 3:2+1 | 1=1 2=1073741824",
	"2 1 | 1:2+1 1:1+2 |", // a learner where there are copies enough, without a life
	"2 1 | 1:12 1:21 1:1 | 2=4",
	"3 2 | 1:12 1:23 |",
	"3 2 | 1:3+1 7:3+1 | 3=9",
	"3 3 | 1:321 1:12+3 1:2+1 1:2+3 | 1=3 2=2 3=1",
	"3 1 | 5:123 6:32 | 1=1 3=1", // more nodes than copies
	"4 2 | 1:1 1:1 1:1 1:1 | 2=1",
	"4 4 | 1:1234 2:4321 3:24+3 4:3 | 1=1 4=7",
	"5 5 | 1:12345 1:54321 1:24135 1073741824:1234+5 | 1=1 2=2 3=3 4=4 5=5",
	"5 1 | 1:12345 1:5+4 1:1+5 | 5=1073741823",
	"5 3 | 9:1 9:2+5 9:345 9:541+2 | 2=3 3=1 5=2",
}

// whole is a plan in which most is there that can be: each of wrong() changes it in one way.
const whole = "3 2 | 4:12+3 5:31 6:2+1 | 1=5 3=2"

// wrong are plans that are none, each wrong in one way.
func wrong() map[string]api.Plan {
	list := map[string]api.Plan{}
	add := func(what string, change func(p *api.Plan)) {
		p := of(whole)
		change(&p)
		list[what] = p
	}
	for _, n := range numbers {
		name := fmt.Sprint(" ", n)
		if n != 3 && n != 4 && n != 5 {
			add("nodes"+name, func(p *api.Plan) { p.Nodes = n })
		}
		if n < 1 || n > 3 {
			add("copies"+name, func(p *api.Plan) { p.Copies = n })
			add("node of the first life"+name, func(p *api.Plan) { p.Lives[0].Node = n })
			add("node of the last life"+name, func(p *api.Plan) { p.Lives[1].Node = n })
		}
		if n < 1 || n > late {
			add("life"+name, func(p *api.Plan) { p.Lives[0].Life = n })
			add("last life"+name, func(p *api.Plan) { p.Lives[1].Life = n })
		}
		for part := range 3 {
			name := fmt.Sprint(" of ", part, " ", n)
			if n < 1 || n > late {
				add("epoch"+name, func(p *api.Plan) { p.Parts[part].Epoch = n })
			}
			if n < 1 || n > 3 {
				add("head"+name, func(p *api.Plan) { p.Parts[part].Chain[0] = n })
				add("tail"+name, func(p *api.Plan) { p.Parts[part].Chain = append(p.Parts[part].Chain, n) })
			}
			if n != 0 && (n < 1 || n > 3) {
				add("learner"+name, func(p *api.Plan) { p.Parts[part].Learner = n })
			}
		}
	}
	for part, chains := range [][][]int{
		{nil, {}, {1, 1}, {2, 2}, {1, 2, 3}, {1, 3}, {3, 1}, {3}, {1, 2, 1}, {2, 1, 1}, {1, 2, 2, 1}, {1, 2, 1, 2}},
		{nil, {}, {1, 1}, {3, 3}, {3, 3, 1}, {3, 1, 3}, {1, 3, 3}, {1, 2, 3, 1}, {1, 2, 3, 2}, {1, 2, 3, 3}, {1, 2, 3, 0}, {1, 2, 3, 4}, make([]int, 3), make([]int, 300)},
		{nil, {}, {2, 1}, {1, 2}, {1}, {1, 3}, {3, 1}, {2, 2}, {3, 3}},
	} {
		for _, chain := range chains {
			add(fmt.Sprintf("chain of %d %.40v %d", part, chain, len(chain)), func(p *api.Plan) { p.Parts[part].Chain = chain })
		}
	}
	for part, learners := range [][]int{{1, 2}, {3, 1}, {2}} {
		for _, node := range learners {
			add(fmt.Sprint("learner in the chain of ", part, " ", node), func(p *api.Plan) { p.Parts[part].Learner = node })
		}
	}
	add("no nodes for the chains", func(p *api.Plan) { p.Nodes, p.Copies = 2, 2 })
	for _, n := range []int{0, 1} {
		add(fmt.Sprint("partitions ", n), func(p *api.Plan) { p.Parts = p.Parts[:n] })
	}
	for _, n := range []int{2, 3, 300} {
		add(fmt.Sprint("partitions more ", n), func(p *api.Plan) {
			for range n {
				p.Parts = append(p.Parts, api.Part{Epoch: 1, Chain: []int{1}})
			}
		})
	}
	add("an empty place more", func(p *api.Plan) { p.Parts = append(p.Parts, api.Part{}) })
	for _, lives := range [][]api.Life{
		{{}}, {{Node: 1}}, {{Life: 1}}, {{Node: 3, Life: 1}, {Node: 1, Life: 1}}, {{Node: 1, Life: 1}, {Node: 1, Life: 1}}, {{Node: 1, Life: 1}, {Node: 1, Life: 2}}, {{Node: 3, Life: 1}, {Node: 3, Life: 1}},
		{{Node: 2, Life: 1}, {Node: 3, Life: 1}, {Node: 1, Life: 1}}, {{Node: 2, Life: 1}, {Node: 1, Life: 1}, {Node: 3, Life: 1}}, {{Node: 1, Life: 1}, {Node: 3, Life: 1}, {Node: 2, Life: 1}}, {{Node: 1, Life: 1}, {Node: 2, Life: 1}, {Node: 2, Life: 1}},
		{{Node: 1, Life: 1}, {Node: 2, Life: 1}, {Node: 3, Life: 1}, {Node: 3, Life: 1}}, {{Node: 1, Life: 1}, {Node: 2, Life: 1}, {Node: 3, Life: 1}, {Node: 4, Life: 1}}, {{Node: 0, Life: 1}, {Node: 1, Life: 1}}, make([]api.Life, 300),
	} {
		add(fmt.Sprintf("lives %.60v %d", lives, len(lives)), func(p *api.Plan) { p.Lives = lives })
	}
	list["zero"] = api.Plan{}
	list["parts alone"] = api.Plan{Parts: of(whole).Parts}
	return list
}

func TestGood(t *testing.T) {
	for _, s := range append([]string{whole}, right...) {
		if !plan.Good(of(s)) {
			t.Error(s)
		}
	}
	for what, p := range wrong() {
		if plan.Good(p) {
			t.Error(what)
		}
	}
	p := of(whole)
	p.Nodes = 5 // more nodes than there are in chains and lives
	if !plan.Good(p) {
		t.Error(tell(p))
	}
}

// Whatever an event is, and were it none: of what is no plan the answer is ErrArg.
func TestApplyOfNoPlan(t *testing.T) {
	events := append(someEvents(3, 3), api.Event{}, boot(6, 1), join(1, 4), ready(1, 0, late+1))
	for _, p := range wrong() {
		for _, x := range events {
			isRefused(t, p, x, api.ErrArg)
		}
	}
}

// someEvents are events of a plan of so many nodes and partitions, of all kinds.
func someEvents(nodes, parts int) []api.Event {
	list := []api.Event{create()}
	for node := 1; node <= nodes; node++ {
		list = append(list, dead(node))
		for _, n := range []int{1, 2, 3, late - 1, late} {
			list = append(list, boot(node, n))
			for part := range parts {
				list = append(list, ready(node, part, n))
			}
		}
		for part := range parts {
			list = append(list, join(node, part))
		}
	}
	return list
}

func TestApplyBoot(t *testing.T) {
	for _, c := range []struct {
		was    string
		x      api.Event
		want   string
		turned []int
	}{
		// A node without a life: lives stand by rising nodes.
		{"3 2 | 1:12 1:23 |", boot(1, 1), "3 2 | 2:12 1:23 | 1=1", []int{0}},
		{"3 2 | 1:12 1:23 |", boot(2, 7), "3 2 | 2:12 2:23 | 2=7", []int{0, 1}},
		{"3 2 | 1:12 1:23 | 3=9", boot(2, late), "3 2 | 2:12 2:23 | 2=1073741824 3=9", []int{0, 1}},
		{"3 2 | 1:12 1:23 | 1=3 3=9", boot(2, 1), "3 2 | 2:12 2:23 | 1=3 2=1 3=9", []int{0, 1}},
		{"3 2 | 1:12 1:23 | 1=3 2=9", boot(3, 1), "3 2 | 1:12 2:23 | 1=3 2=9 3=1", []int{1}},
		{"5 1 | 1:1 1:2 1:3 1:4 | 1=1 3=1 5=1", boot(4, 2), "5 1 | 1:1 1:2 1:3 2:4 | 1=1 3=1 4=2 5=1", []int{3}},
		// A node in a newer life.
		{"3 2 | 4:12 5:23 | 1=3 3=9", boot(1, 4), "3 2 | 5:12 5:23 | 1=4 3=9", []int{0}},
		{"3 2 | 4:12 5:23 | 1=3 3=9", boot(3, late), "3 2 | 4:12 6:23 | 1=3 3=1073741824", []int{1}},
		{"2 2 | 1:12 1:21 1:1 1:2 | 1=1 2=1073741823", boot(2, late), "2 2 | 2:12 2:21 1:1 2:2 | 1=1 2=1073741824", []int{0, 1, 3}},
		{"1 1 | 1:1 4:1 8:1 9:1 | 1=1", boot(1, 2), "1 1 | 2:1 5:1 9:1 10:1 | 1=2", []int{0, 1, 2, 3}},
		// The head, one in the middle, the tail.
		{"5 3 | 1:123 1:451 1:514 1:234 |", boot(1, 1), "5 3 | 2:123 2:451 2:514 1:234 | 1=1", []int{0, 1, 2}},
		// In no chain.
		{"4 2 | 1:12 1:23 |", boot(4, 1), "4 2 | 1:12 1:23 | 4=1", nil},
		{"3 2 | 1:2 1073741824:2 | 1=1 3=2", boot(3, 5), "3 2 | 1:2 1073741824:2 | 1=1 3=5", nil},
		// A learner that boots stays it.
		{"3 2 | 4:1+3 7:23 6:2+1 | 3=1", boot(3, 2), "3 2 | 5:1+3 8:23 6:2+1 | 3=2", []int{0, 1}},
		{"3 2 | 4:1+3 7:1+3 6:2+1 |", boot(3, 1), "3 2 | 5:1+3 8:1+3 6:2+1 | 3=1", []int{0, 1}},
		{"3 2 | 1:1+3 1:1+2 | 1=1", boot(3, 1), "3 2 | 2:1+3 1:1+2 | 1=1 3=1", []int{0}},
		// The last epoch but one.
		{"3 2 | 1073741823:12 1073741824:3 | 1=1", boot(2, 1), "3 2 | 1073741824:12 1073741824:3 | 1=1 2=1", []int{0}},
	} {
		isApplied(t, c.was, c.x, c.want, c.turned...)
	}
	for _, life := range []int{1, 2, 7, late} {
		p := of(fmt.Sprintf("3 2 | 1:12 1073741824:23 | 1=%d 2=%d", life, life))
		for _, n := range []int{1, 2, 6, 7, 8, late - 1, late} {
			if n <= life {
				isRefused(t, p, boot(1, n), api.ErrOld)
				isRefused(t, p, boot(2, n), api.ErrOld)
			} else if _, _, e := plan.Apply(p, boot(1, n)); e != api.OK {
				t.Error(life, n, e)
			}
		}
	}
}

func TestApplyDead(t *testing.T) {
	for _, c := range []struct {
		was    string
		x      api.Event
		want   string
		turned []int
	}{
		// The head, one in the middle, the tail: the others stay as they stand.
		{"5 3 | 1:123 1:451 1:514 1:234 | 1=4", dead(1), "5 3 | 2:23 2:45 2:54 1:234 | 1=4", []int{0, 1, 2}},
		{"5 5 | 1:12345 1:54321 |", dead(3), "5 5 | 2:1245 2:5421 |", []int{0, 1}},
		{"2 2 | 1:12 3:21 |", dead(1), "2 2 | 2:2 4:2 |", []int{0, 1}},
		// Alone in a chain it stays there.
		{"3 2 | 1:1 1:12 1:21 | 1=1", dead(1), "3 2 | 1:1 2:2 2:2 | 1=1", []int{1, 2}},
		{"3 2 | 1:31 9:1 1:1+2 1:2 |", dead(1), "3 2 | 2:3 9:1 1:1+2 1:2 |", []int{0}},
		{"3 2 | 1073741824:1 1:12 |", dead(1), "3 2 | 1073741824:1 2:2 |", []int{1}},
		// A learner that is dead; one that learns from who is dead goes on.
		{"3 2 | 4:1+3 7:12 6:2+3 | 3=1", dead(3), "3 2 | 5:1 7:12 7:2 | 3=1", []int{0, 2}},
		{"3 2 | 4:12+3 7:13+2 6:2+3 5:3 |", dead(3), "3 2 | 5:12 8:1+2 7:2 5:3 |", []int{0, 1, 2}},
		{"3 3 | 4:12+3 7:1+2 |", dead(1), "3 3 | 5:2+3 7:1+2 |", []int{0}},
		// Nobody asks for its life, and it stays as it is.
		{"2 2 | 1:12 3:1 | 2=8", dead(2), "2 2 | 2:1 3:1 | 2=8", []int{0}},
		// More nodes than copies, and the last epoch but one.
		{"3 1 | 1073741823:123 1:1 |", dead(3), "3 1 | 1073741824:12 1:1 |", []int{0}},
	} {
		isApplied(t, c.was, c.x, c.want, c.turned...)
	}
	for _, s := range []string{"3 2 | 1:1 2:2 |", "3 3 | 1:1+2 2:2+1 | 1=1 2=1 3=1", "3 3 | 1:12 2:1 | 3=5", "3 1 | 1073741824:21 1073741824:1+2 |"} {
		isRefused(t, of(s), dead(3), api.ErrOld)
	}
	isRefused(t, of("1 1 | 1:1 1:1 | 1=1"), dead(1), api.ErrOld)
	isRefused(t, of("4 2 | 1073741824:2 1073741824:2+1 1:3 | 2=4"), dead(2), api.ErrOld)
}

func TestApplyJoin(t *testing.T) {
	for _, c := range []struct {
		was    string
		x      api.Event
		want   string
		turned []int
	}{
		{"3 2 | 4:2 1:23 | 1=1", join(1, 0), "3 2 | 5:2+1 1:23 | 1=1", []int{0}},
		{"3 2 | 4:2 1:3 | 1=1073741824 3=1", join(1, 1), "3 2 | 4:2 2:3+1 | 1=1073741824 3=1", []int{1}},
		{"3 3 | 4:21 1:3 | 2=1 3=7", join(3, 0), "3 3 | 5:21+3 1:3 | 2=1 3=7", []int{0}},
		{"5 5 | 1:12345 1:1 1:2 1073741823:1243 | 5=2", join(5, 3), "5 5 | 1:12345 1:1 1:2 1073741824:1243+5 | 5=2", []int{3}},
		{"2 2 | 9:1+2 9:1 | 2=1", join(2, 1), "2 2 | 9:1+2 10:1+2 | 2=1", []int{1}},
	} {
		isApplied(t, c.was, c.x, c.want, c.turned...)
	}
	for what, c := range map[string]struct {
		was string
		x   api.Event
	}{
		"no life":                     {"3 2 | 4:2 1:23 | 2=1 3=1", join(1, 0)},
		"no lives":                    {"3 2 | 4:2 1:23 |", join(1, 0)},
		"copies enough":               {"3 2 | 4:23 1:3 | 1=1", join(1, 0)},
		"more than enough":            {"3 1 | 4:23 1:3 | 1=1", join(1, 0)},
		"one copy":                    {"3 1 | 4:2 1:3 | 1=1", join(1, 1)},
		"another learner":             {"3 3 | 4:2+3 1:3 | 1=1", join(1, 0)},
		"it learns already":           {"3 3 | 4:2+1 1:3 | 1=1", join(1, 0)},
		"the head":                    {"3 3 | 4:12 1:3 | 1=1", join(1, 0)},
		"the tail":                    {"3 3 | 4:21 1:3 | 1=1", join(1, 0)},
		"alone":                       {"3 3 | 4:1 1:3 | 1=1", join(1, 0)},
		"the last epoch, and no life": {"3 2 | 1073741824:2 1:23 | 2=1 3=1", join(1, 0)},
	} {
		t.Run(what, func(t *testing.T) { isRefused(t, of(c.was), c.x, api.ErrOld) })
	}
}

func TestApplyReady(t *testing.T) {
	for _, c := range []struct {
		was    string
		x      api.Event
		want   string
		turned []int
	}{
		{"3 2 | 4:2+1 1:23 | 1=1", ready(1, 0, 4), "3 2 | 5:21 1:23 | 1=1", []int{0}},
		{"3 3 | 4:2+1 9:13+2 | 1=1 2=2", ready(2, 1, 9), "3 3 | 4:2+1 10:132 | 1=1 2=2", []int{1}},
		{"5 5 | 1:12345 1:1 1:2 1:1243+5 | 5=2", ready(5, 3, 1), "5 5 | 1:12345 1:1 1:2 2:12435 | 5=2", []int{3}},
		{"2 2 | 1:1+2 1073741823:1+2 | 2=1", ready(2, 1, late-1), "2 2 | 1:1+2 1073741824:12 | 2=1", []int{1}},
		// Neither a life nor the number of copies is asked for.
		{"3 1 | 4:23+1 1:23 |", ready(1, 0, 4), "3 1 | 5:231 1:23 |", []int{0}},
	} {
		isApplied(t, c.was, c.x, c.want, c.turned...)
	}
	p := of("3 3 | 4:2+1 9:13 | 1=1 2=1 3=1")
	for _, n := range []int{1, 3, 5, 9, late - 1, late} {
		isRefused(t, p, ready(1, 0, n), api.ErrOld)
	}
	for _, x := range []api.Event{ready(2, 0, 4), ready(3, 0, 4), ready(1, 1, 9), ready(2, 1, 9), ready(3, 1, 9), ready(1, 1, 4)} {
		isRefused(t, p, x, api.ErrOld)
	}
	isRefused(t, of("3 3 | 1073741824:2+1 9:13 |"), ready(1, 0, late-1), api.ErrOld)
	isRefused(t, of("3 3 | 1073741824:2+1 9:13 |"), ready(3, 0, late), api.ErrOld)
}

func TestApplyCreate(t *testing.T) {
	for _, c := range []struct {
		was, want string
		part      int
	}{
		{"1 1 | 7:1 8:1 | 1=4", "1 1 | 7:1 8:1 1:1 | 1=4", 2},
		{"1 1 | 7:1 8:1 9:1 | 1=4", "1 1 | 7:1 8:1 9:1 1:1 | 1=4", 3},
		{"2 1 | 1:1 1:2 1:1 |", "2 1 | 1:1 1:2 1:1 1:2 |", 3},
		{"3 2 | 9:1 9:3+2 | 2=1", "3 2 | 9:1 9:3+2 1:31 | 2=1", 2},
		{"3 2 | 1:12 1:23 1:31 |", "3 2 | 1:12 1:23 1:31 1:12 |", 3},
		{"3 3 | 1073741824:1 1073741824:2 |", "3 3 | 1073741824:1 1073741824:2 1:312 |", 2},
		{"5 5 | 1:1 1:2 | 5=1", "5 5 | 1:1 1:2 1:34512 | 5=1", 2},
		{"5 1 | 1:1 1:2 1:3 |", "5 1 | 1:1 1:2 1:3 1:4 |", 3},
	} {
		isApplied(t, c.was, create(), c.want, c.part)
	}
	for _, s := range []string{"1 1 | 7:1 8:1 9:1 9:1 | 1=4", "5 5 | 1:12345 1:54321 1:24135 1073741824:1234+5 |"} {
		isRefused(t, of(s), create(), api.ErrMany)
	}
}

// From a beginning on, partitions are added till there are MaxParts: they are those that New has.
func TestCreateIsNew(t *testing.T) {
	for nodes := 1; nodes <= 5; nodes++ {
		for copies := 1; copies <= nodes; copies++ {
			p, _ := plan.New(api.Config{Nodes: nodes, Copies: copies, Parts: 2})
			for parts := 3; parts <= 4; parts++ {
				q, turned, e := plan.Apply(p, create())
				want, _ := plan.New(api.Config{Nodes: nodes, Copies: copies, Parts: parts})
				if tell(q) != tell(want) || !slices.Equal(turned, []int{parts - 1}) || e != api.OK {
					t.Error(tell(q), turned, e)
				}
				p = q
			}
			isRefused(t, p, create(), api.ErrMany)
		}
	}
}

// An epoch above MaxEpoch is ErrMany, wherever the others are; nothing has changed then.
func TestApplyLastEpoch(t *testing.T) {
	for _, c := range []struct {
		was string
		x   api.Event
	}{
		{"3 2 | 1073741824:12 1:23 |", boot(1, 1)}, {"3 2 | 1:12 1073741824:21 | 1=1", boot(1, late)}, {"3 2 | 1073741824:2+1 1:23 |", boot(1, 1)}, {"1 1 | 1073741824:1 1073741824:1 1073741824:1 1073741824:1 |", boot(1, 1)}, {"1 1 | 1:1 1:1 1:1 1073741824:1 |", boot(1, 1)},
		{"3 2 | 1073741824:12 1:23 |", dead(1)}, {"3 2 | 1:12 1073741824:21 |", dead(1)}, {"3 2 | 1:12 1073741824:2+1 |", dead(1)}, {"3 2 | 1073741824:2+1 1073741824:2+1 |", dead(1)},
		{"3 2 | 1073741824:2 1:2 | 1=1", join(1, 0)}, {"3 2 | 1:2 1073741824:2 | 1=1", join(1, 1)},
		{"3 2 | 1073741824:2+1 1:2 | 1=1", ready(1, 0, late)}, {"3 2 | 1:2+1 1073741824:2+1 | 1=1", ready(1, 1, late)},
	} {
		isRefused(t, of(c.was), c.x, api.ErrMany)
	}
}

// What an event isn't is told first, whatever else is so: of nodes and partitions that this plan hasn't, too.
func TestApplyOfNoEvent(t *testing.T) {
	plans := []string{"1 1 | 1:1 1:1 |", "3 2 | 4:12 5:31 | 1=5 3=2", "3 2 | 1073741824:12 5:31 6:2+1 | 3=2", "4 4 | 1:1 1:1 1:1 1:1 |", "5 5 | 1:1 1:1 1:1 |"}
	for _, s := range plans {
		p := of(s)
		for node := 1; node <= 5; node++ {
			for part := range 4 {
				for _, x := range []api.Event{boot(node, 1), boot(node, late), dead(node), ready(node, part, 1), ready(node, part, late), join(node, part)} {
					away := x.Node > p.Nodes || x.Part >= len(p.Parts)
					if _, _, e := plan.Apply(p, x); (e == api.ErrArg) != away {
						t.Error(s, x, e)
					}
				}
			}
		}
		for _, x := range malformed() {
			isRefused(t, p, x, api.ErrArg)
		}
	}
}

// malformed are events that are none.
func malformed() []api.Event {
	list := []api.Event{{}, {Kind: api.EvBoot}, {Kind: api.EvDead}, {Kind: api.EvReady}, {Kind: api.EvJoin}, {Node: 1, N: 1}}
	for _, n := range numbers {
		if n != 0 {
			list = append(list, api.Event{Kind: api.EvBoot, Node: 1, Part: n, N: 9}, api.Event{Kind: api.EvDead, Node: 1, Part: n}, api.Event{Kind: api.EvDead, Node: 1, N: n}, api.Event{Kind: api.EvJoin, Node: 1, N: n})
			list = append(list, api.Event{Kind: api.EvCreate, Node: n}, api.Event{Kind: api.EvCreate, Part: n}, api.Event{Kind: api.EvCreate, N: n})
		}
		if n < 1 || n > 5 {
			list = append(list, boot(n, 9), dead(n), ready(n, 0, 1), join(n, 0), api.Event{Kind: n}, api.Event{Kind: n, Node: 1}, api.Event{Kind: n, Node: 1, N: 9}, api.Event{Kind: n, Node: 1, Part: 1, N: 1})
		}
		if n < 0 || n > 3 {
			list = append(list, ready(1, n, 1), join(1, n))
		}
		if n < 1 || n > late {
			list = append(list, boot(1, n), ready(1, 0, n))
		}
	}
	return list
}

func TestLife(t *testing.T) {
	p := of("5 2 | 1:12 1:23 | 1=5 3=1073741824 5=1")
	lives := map[int]int{1: 5, 3: late, 5: 1}
	for _, node := range append([]int{1<<32 + 3, -3}, numbers...) {
		if got := plan.Life(p, node); got != lives[node] {
			t.Error(node, got)
		}
		if plan.Life(of("5 2 | 1:12 1:23 |"), node) != 0 || plan.Life(api.Plan{}, node) != 0 {
			t.Error("a life of nobody", node)
		}
	}
}

func TestWants(t *testing.T) {
	for s, want := range map[string][]string{
		// Of each node from 1 on what it wants.
		"3 2 | 1:12 1:23 |":                         {"", "", ""},
		"3 2 | 1:1 1:3 |":                           {"1", "01", "0"},
		"3 2 | 1:1 1:3 1:1 1:12 | 1=1":              {"1", "012", "02"},
		"3 2 | 1:1+2 1:3 1:1+3 1:2 |":               {"13", "1", "3"},
		"3 1 | 1:1 1:3 1:12 1:321 |":                {"", "", ""},
		"3 3 | 1:12 1:31 1:2 1:23+1 |":              {"2", "1", "02"},
		"1 1 | 1:1 1:1 1:1 1:1 | 1=1":               {""},
		"2 2 | 1073741824:1 1073741824:2 | 1=1 2=1": {"1", "0"},
		"5 5 | 1:12345 1:1234 1:5 1:45 |":           {"23", "23", "23", "2", "1"},
		"5 3 | 1:1 1:2+5 1:345 1:54 | 2=3 3=1 5=2":  {"3", "03", "03", "0", "0"},
	} {
		p := of(s)
		for _, node := range numbers {
			parts := ""
			for _, part := range plan.Wants(p, node) {
				parts += strconv.Itoa(part)
			}
			if node < 1 || node > p.Nodes {
				if parts != "" {
					t.Error(s, node, parts)
				}
			} else if parts != want[node-1] {
				t.Error(s, node, parts, "want", want[node-1])
			}
		}
		if len(want) != p.Nodes {
			t.Error(s)
		}
	}
}

// write is what an event's bytes are, were it one.
func write(x api.Event) string { return fmt.Sprintf("li%dei%dei%dei%dee", x.Kind, x.Node, x.Part, x.N) }

// form is that of events' bytes, a line for each kind; a life or an epoch is held against MaxEpoch beside.
var form = regexp.MustCompile(`^l(?:` +
	`i1ei([1-5])ei0ei([1-9][0-9]{0,9})e|` +
	`i2ei([1-5])ei0ei0e|` +
	`i3ei([1-5])ei([0-3])ei([1-9][0-9]{0,9})e|` +
	`i4ei0ei0ei0e|` +
	`i5ei([1-5])ei([0-3])ei0e` +
	`)e$`)

// isEvent: whether bytes are an event's.
func isEvent(s string) bool {
	m := form.FindStringSubmatch(s)
	if m == nil {
		return false
	}
	n, _ := strconv.Atoi("0" + m[2] + m[6])
	return n <= late
}

func TestEncode(t *testing.T) {
	for s, x := range map[string]api.Event{
		"li1ei2ei0ei1ee":          boot(2, 1),
		"li1ei5ei0ei1073741824ee": boot(5, late),
		"li2ei1ei0ei0ee":          dead(1),
		"li2ei5ei0ei0ee":          dead(5),
		"li3ei3ei2ei7ee":          ready(3, 2, 7),
		"li3ei1ei0ei1073741824ee": ready(1, 0, late),
		"li4ei0ei0ei0ee":          create(),
		"li5ei1ei0ei0ee":          join(1, 0),
		"li5ei5ei3ei0ee":          join(5, 3),
	} {
		if got, e := plan.Encode(x); got != s || e != api.OK {
			t.Error(x, got, e)
		}
		if got, e := plan.Decode(s); got != x || e != api.OK {
			t.Error(s, got, e)
		}
	}
	for _, x := range malformed() {
		if s, e := plan.Encode(x); s != "" || e != api.ErrArg {
			t.Error(x, s, e)
		}
		if got, e := plan.Decode(write(x)); got != (api.Event{}) || e != api.ErrForm {
			t.Error(x, got, e)
		}
	}
}

// All events of the numbers that the chapter names, and all around them.
func TestEncodeNumbers(t *testing.T) {
	some := []int{math.MinInt, -1, 0, 1, 2, 3, 4, 5, 6, late, late + 1, 1 << 32, 1<<32 + 1, math.MaxInt}
	count := 0
	for _, kind := range kinds {
		for _, node := range some {
			for _, part := range some {
				for _, n := range some {
					x := api.Event{Kind: kind, Node: node, Part: part, N: n}
					want := write(x)
					s, e := plan.Encode(x)
					y, f := plan.Decode(want)
					if isEvent(want) {
						count++
						if s != want || e != api.OK || y != x || f != api.OK {
							t.Fatal(x, s, e, y, f)
						}
					} else if s != "" || e != api.ErrArg || y != (api.Event{}) || f != api.ErrForm {
						t.Fatal(x, s, e, y, f)
					}
				}
			}
		}
	}
	// 5 nodes, 4 partitions, 7 lives or epochs.
	if count != 5*7+5+5*4*7+1+5*4 {
		t.Error(count)
	}
}

// Bytes that are an event's but for one thing.
func TestDecodeWrong(t *testing.T) {
	list := []string{
		"", "l", "e", "le", "lee", "i3e", "li3ee", "li3ei3ei2ee", "li3ei3ei2e", "li3ei3ei2ei7e", "li3ei3ei2ei7eei0ee", "li3ei3ei2ei7ei0ee", "li3ei3ei2ei7elee", "li3ei3ei2ei7e0:e", "li4ei0ei0ee", "li4ei0ei0ei0ei0ee", "li4ei0ee", "li4ee", "li2ei1ee", "li2ei1ei0ee",
		"i3ei3ei2ei7e", "li3ei3ei2ei7eee", "li3ei3ei2ei7eele", " li3ei3ei2ei7ee", "li3ei3ei2ei7ee ", "li3ei3ei2ei7ee\n", "\x00li3ei3ei2ei7ee", "li3ei3ei2ei7ee\x00", "lli3ei3ei2ei7eee", "li3ei3eli2ei7eee",
		"li03ei3ei2ei7ee", "li3ei03ei2ei7ee", "li3ei3ei02ei7ee", "li3ei3ei2ei07ee", "li+3ei3ei2ei7ee", "li3ei3ei2ei+7ee", "li3ei-3ei2ei7ee", "li3ei3ei-2ei7ee", "li3ei3ei-0ei7ee", "li4ei-0ei0ei0ee", "li4ei0ei00ei0ee", "li4eieieiee", "li4ei0ei0eiee", "li 3ei3ei2ei7ee", "li3.0ei3ei2ei7ee", "li3ei3ei2ei7_0ee", "li3ei3ei2ei0x7ee", "li3ei3ei2ei1e3ee",
		"l1:31:31:21:7e", "li3ei3ei21:7e", "li3ei3ei2e1:7e", "LI3EI3EI2EI7EE", "d3:3e", "li3ei3ei2ei18446744073709551623ee", "li18446744073709551619ei3ei2ei7ee", "li3ei3ei2ei9223372036854775808ee", "li3ei3ei2ei99999999999999999999999999ee", "li3ei3ei2ei1073741825ee", "li1ei1ei0ei1073741825ee", "li1ei1ei0ei0ee", "li1ei1ei0ei-1ee", "li3ei3ei2ei0ee",
		"li0ei0ei0ei0ee", "li-1ei1ei0ei0ee", "li6ei1ei0ei0ee", "li6ei0ei0ei0ee", "li1ei6ei0ei1ee", "li1ei0ei0ei1ee", "li1ei1ei1ei1ee", "li2ei6ei0ei0ee", "li2ei1ei1ei0ee", "li2ei1ei0ei1ee", "li3ei3ei4ei7ee", "li4ei1ei0ei0ee", "li4ei0ei1ei0ee", "li4ei0ei0ei1ee", "li5ei1ei0ei1ee", "li5ei1ei4ei0ee", "li5ei6ei0ei0ee",
		strings.Repeat("l", 1<<16), strings.Repeat("li3ei3ei2ei7ee", 1<<12), "li3ei3ei2ei" + strings.Repeat("7", 1<<16) + "ee", "l" + strings.Repeat("i3e", 1<<16) + "e",
	}
	for _, x := range someEvents(5, 4) {
		s := write(x)
		for i := range len(s) {
			list = append(list, s[:i], s[i+1:])
		}
		for _, more := range []string{"e", "l", "le", "i0e", "0:", " ", "\x00", "\n", s} {
			list = append(list, s+more, more+s)
		}
	}
	for _, s := range list {
		if x, e := plan.Decode(s); x != (api.Event{}) || e != api.ErrForm {
			t.Errorf("%.60q: %v, %d", s, x, e)
		}
	}
}

// Of all that is a byte off an event's bytes just that is one which would have been written so.
func TestEveryByte(t *testing.T) {
	try := func(s string) {
		x, e := plan.Decode(s)
		if isEvent(s) != (e == api.OK) || e == api.OK && write(x) != s || e != api.OK && (e != api.ErrForm || x != (api.Event{})) {
			t.Errorf("%q: %v, %d", s, x, e)
		}
	}
	for _, x := range []api.Event{boot(1, 1), boot(5, late), dead(3), ready(2, 3, 10), ready(4, 0, late-1), create(), join(5, 1)} {
		s := write(x)
		for i := range len(s) + 1 {
			for c := range 256 {
				b := string([]byte{byte(c)})
				try(s[:i] + b + s[i:])
				if i < len(s) {
					try(s[:i] + b + s[i+1:])
					try(s[:i] + s[i+1:])
				}
			}
		}
	}
}

// spoil changes all that a plan holds, and its spare room.
func spoil(p api.Plan) {
	for _, x := range p.Parts {
		fill(x.Chain, 99)
	}
	fill(p.Parts, api.Part{Epoch: 99})
	fill(p.Lives, api.Life{Node: 99})
}

// fill changes a list and its spare room.
func fill[T any](list []T, mark T) {
	list = list[:cap(list)]
	for i := range list {
		list[i] = mark
	}
}

// isRoom: what of built is as it was, its spare room, too.
func isRoom(t *testing.T, what string, p api.Plan, s string) {
	t.Helper()
	same := tell(p) == s
	for _, x := range p.Parts {
		same = same && slices.Equal(x.Chain[len(x.Chain):cap(x.Chain)], []int{-7, -7})
	}
	for _, x := range p.Parts[len(p.Parts):cap(p.Parts)] {
		same = same && x.Epoch == -7 && x.Learner == 0 && len(x.Chain) == 0
	}
	if !same || !slices.Equal(p.Lives[len(p.Lives):cap(p.Lives)], []api.Life{{Node: -7}, {Node: -7}}) {
		t.Error(what, "what was handed in is changed:", p, "was", s)
	}
}

// What is handed in is neither changed nor kept, its spare room neither; what is answered is new memory.
func TestWhatIsHandedInIsNotKept(t *testing.T) {
	for _, s := range []string{whole, "3 2 | 1:12 1:23 |", "3 3 | 4:12 5:3+1 6:123 | 1=1 2=1 3=1", "3 3 | 1:1 1:2 1:3+1 1:12+3 | 1=1 2=1 3=1", "3 2 | 1073741824:12 1073741824:2+1 | 1=1 3=1"} {
		for _, x := range append(someEvents(3, 3), ready(1, 2, 6), ready(3, 0, 4), boot(1, 6), boot(3, 9), api.Event{}) {
			what := fmt.Sprint(s, x)
			p := of(s)
			plan.Good(p)
			got, turned, e := plan.Apply(p, x)
			isRoom(t, what, p, s)
			want, list := tell(got), slices.Clone(turned)
			spoil(p)
			if tell(got) != want {
				t.Error(what, "the answer leans on what was handed in:", tell(got), want)
			}
			p = of(s)
			again, more, _ := plan.Apply(p, x)
			spoil(got)
			fill(turned, 99)
			isRoom(t, what, p, s)
			if tell(again) != want || !slices.Equal(more, list) {
				t.Error(what, e, "two answers are one:", tell(again), want)
			}
		}
		for node := range 4 {
			p := of(s)
			plan.Life(p, node)
			list := plan.Wants(p, node)
			want := slices.Clone(list)
			isRoom(t, s, p, s)
			fill(list, 99)
			isRoom(t, s, p, s)
			if !slices.Equal(plan.Wants(p, node), want) {
				t.Error(s, node, "two answers are one")
			}
		}
	}
}

// No two lists of an answer share memory: each is spoilt alone, with its spare room, and the others stay.
func TestListsAreApart(t *testing.T) {
	answers := []func() api.Plan{
		func() api.Plan { p, _ := plan.New(api.Config{Nodes: 5, Copies: 5, Parts: 4}); return p },
		func() api.Plan { p, _ := plan.New(api.Config{Nodes: 1, Copies: 1, Parts: 2}); return p },
	}
	for _, x := range []api.Event{boot(1, 9), boot(2, 3), dead(1), dead(2), ready(3, 0, 4), create(), join(2, 1)} {
		answers = append(answers, func() api.Plan {
			p, _, e := plan.Apply(of("3 3 | 4:12+3 5:31 6:2+1 | 1=5 2=2"), x)
			if e != api.OK {
				t.Error(x, e)
			}
			return p
		})
	}
	for i, answer := range answers {
		want := answer()
		for part := range want.Parts {
			p := answer()
			fill(p.Parts[part].Chain, 99)
			p.Parts[part].Chain = want.Parts[part].Chain
			if tell(p) != tell(want) {
				t.Error(i, part, tell(p), tell(want))
			}
		}
		p := answer()
		fill(p.Lives, api.Life{Node: 99})
		p.Lives = want.Lives
		if tell(p) != tell(want) {
			t.Error(i, tell(p), tell(want))
		}
	}
	_, e := plan.New(api.Config{Nodes: 5, Copies: 5, Parts: 4})
	first, _ := plan.New(api.Config{Nodes: 5, Copies: 5, Parts: 4})
	spoil(first)
	if p, _ := plan.New(api.Config{Nodes: 5, Copies: 5, Parts: 4}); e != api.OK || tell(p) != begun(5, 5, 4).tell() {
		t.Error("two answers are one:", tell(p))
	}
}

// No call panics, and each ends, whatever it is given.
func TestAny(t *testing.T) {
	plans := []api.Plan{{Nodes: math.MaxInt, Copies: math.MaxInt, Parts: make([]api.Part, 9), Lives: make([]api.Life, 9)}, {Nodes: 5, Copies: 5, Parts: make([]api.Part, 4)}, {Nodes: math.MinInt, Copies: math.MinInt, Parts: make([]api.Part, 2)}}
	for _, p := range wrong() {
		plans = append(plans, p)
	}
	events := append(someEvents(5, 4), malformed()...)
	for _, p := range plans {
		for _, x := range events {
			if _, _, e := plan.Apply(p, x); e != api.ErrArg {
				t.Error(tell(p), x, e)
			}
		}
		for _, node := range numbers {
			plan.Life(p, node)
			plan.Wants(p, node)
		}
	}
}

// model is a plan by another way than the package's: chains are texts, lives stand in an array by their nodes.
type model struct {
	nodes, copies int
	parts         []spot
	lives         [6]int
}

type spot struct {
	epoch   int
	chain   string
	learner string // "" is nobody
}

// begun: chains are cut out of the nodes written twice.
func begun(nodes, copies, parts int) *model {
	m := &model{nodes: nodes, copies: copies}
	for range parts {
		m.create()
	}
	return m
}

func (m *model) create() {
	ring := "12345"[:m.nodes]
	ring += ring
	at := len(m.parts) % m.nodes
	m.parts = append(m.parts, spot{epoch: 1, chain: ring[at : at+m.copies]})
}

func (m *model) tell() string {
	s := fmt.Sprint(m.nodes, " ", m.copies, " |")
	for _, x := range m.parts {
		s += fmt.Sprintf(" %d:%s", x.epoch, x.chain)
		if x.learner != "" {
			s += "+" + x.learner
		}
	}
	s += " |"
	for node, life := range m.lives {
		if life > 0 {
			s += fmt.Sprintf(" %d=%d", node, life)
		}
	}
	return s
}

// clone: a model whose partitions are its own.
func (m *model) clone() *model {
	c := *m
	c.parts = slices.Clone(m.parts)
	return &c
}

func (m *model) wants(node int) []int {
	var list []int
	for i, x := range m.parts {
		if len(x.chain) < m.copies && x.learner == "" && !strings.Contains(x.chain, strconv.Itoa(node)) {
			list = append(list, i)
		}
	}
	return list
}

// apply: the model behind an event; itself, beside an error.
func (m *model) apply(x api.Event) (*model, []int, api.Errno) {
	if !isEvent(write(x)) || x.Node > m.nodes || x.Part >= len(m.parts) {
		return m, nil, api.ErrArg
	}
	was, m := m, m.clone()
	node := strconv.Itoa(x.Node)
	y := &m.parts[x.Part]
	switch {
	case x.Kind == api.EvBoot && m.lives[x.Node] >= x.N, x.Kind == api.EvReady && (y.learner != node || y.epoch != x.N), x.Kind == api.EvJoin && (m.lives[x.Node] == 0 || !slices.Contains(m.wants(x.Node), x.Part)):
		return was, nil, api.ErrOld
	case x.Kind == api.EvCreate && len(m.parts) == 4:
		return was, nil, api.ErrMany
	case x.Kind == api.EvCreate:
		m.create()
		return m, []int{len(m.parts) - 1}, api.OK
	case x.Kind == api.EvBoot:
		m.lives[x.Node] = x.N
		for i, x := range m.parts {
			if strings.Contains(x.chain+x.learner, node) {
				m.parts[i].epoch++
			}
		}
	case x.Kind == api.EvDead:
		for i, x := range m.parts {
			if x.chain != node {
				m.parts[i].chain = strings.ReplaceAll(x.chain, node, "")
			}
			m.parts[i].learner = strings.ReplaceAll(x.learner, node, "")
			if m.parts[i] != x {
				m.parts[i].epoch++
			}
		}
	case x.Kind == api.EvReady:
		*y = spot{epoch: y.epoch + 1, chain: y.chain + node}
	case x.Kind == api.EvJoin:
		*y = spot{epoch: y.epoch + 1, chain: y.chain, learner: node}
	}
	var turned []int
	for i := range m.parts {
		if m.parts[i].epoch > late {
			return was, nil, api.ErrMany
		}
		if m.parts[i] != was.parts[i] {
			turned = append(turned, i)
		}
	}
	if x.Kind == api.EvDead && turned == nil {
		return was, nil, api.ErrOld
	}
	return m, turned, api.OK
}

// isStep: a step of a plan is the model's, and keeps P12.5.
func isStep(t *testing.T, p api.Plan, m *model, x api.Event) (api.Plan, *model, api.Errno) {
	t.Helper()
	got, turned, e := plan.Apply(p, x)
	next, list, want := m.apply(x)
	if e != want || !slices.Equal(turned, list) || e == api.OK && tell(got) != next.tell() || e != api.OK && !isZero(got) {
		t.Fatalf("%s, %v: %s, %v, %d, want %s, %v, %d", tell(p), x, tell(got), turned, e, next.tell(), list, want)
	}
	if e != api.OK {
		return p, m, e
	}
	isKept(t, p, got, turned)
	return got, next, e
}

// isKept: a chain is never empty, no node comes into it but its learner, an epoch rises whenever its place changes, lives rise, and what is said to be another place is.
func isKept(t *testing.T, p, q api.Plan, turned []int) {
	t.Helper()
	if !plan.Good(q) || q.Nodes != p.Nodes || q.Copies != p.Copies || len(q.Parts) < len(p.Parts) {
		t.Fatal(tell(p), tell(q))
	}
	for i, x := range p.Parts {
		y := q.Parts[i]
		for _, node := range y.Chain {
			if !slices.Contains(x.Chain, node) && node != x.Learner {
				t.Fatal("a node comes into a chain:", tell(p), tell(q))
			}
		}
		same := tellPlace(x) == tellPlace(y)
		if same != (x.Epoch == y.Epoch) || y.Epoch < x.Epoch || same == slices.Contains(turned, i) {
			t.Fatal("an epoch:", tell(p), tell(q), turned)
		}
	}
	for _, x := range p.Lives {
		if plan.Life(q, x.Node) < x.Life {
			t.Fatal("a life is gone:", tell(p), tell(q))
		}
	}
}

// By the model: whatever comes, the plan is the same. Mostly it is what may well be.
func TestSteps(t *testing.T) {
	chance := rand.New(rand.NewSource(1212))
	taken := map[[2]int]int{}
	odd := malformed()
	for range 1500 {
		nodes := 1 + chance.Intn(5)
		copies, parts := 1+chance.Intn(nodes), 2+chance.Intn(3)
		p, _ := plan.New(api.Config{Nodes: nodes, Copies: copies, Parts: parts})
		m := begun(nodes, copies, parts)
		if chance.Intn(4) == 0 {
			// Few epochs are left.
			for i := range m.parts {
				m.parts[i].epoch = late - chance.Intn(9)
				p.Parts[i].Epoch = m.parts[i].epoch
			}
		}
		for range 60 {
			x := someEvent(chance, m)
			if chance.Intn(15) == 0 {
				x = odd[chance.Intn(len(odd))]
			}
			var e api.Errno
			p, m, e = isStep(t, p, m, x)
			taken[[2]int{max(0, min(x.Kind, 6)), int(e)}]++
			for node := 1; node <= nodes; node++ {
				if !slices.Equal(plan.Wants(p, node), m.wants(node)) || plan.Life(p, node) != m.lives[node] {
					t.Fatal(tell(p), node, plan.Wants(p, node))
				}
			}
		}
	}
	for kind := api.EvBoot; kind <= api.EvJoin; kind++ {
		for _, e := range []api.Errno{api.OK, api.ErrArg, api.ErrOld, api.ErrMany} {
			if taken[[2]int{kind, int(e)}] < 10 && (kind != api.EvCreate || e != api.ErrOld) {
				t.Error("seldom:", kind, e, taken[[2]int{kind, int(e)}])
			}
		}
	}
}

// someEvent is an event that may well come, or nearly.
func someEvent(chance *rand.Rand, m *model) api.Event {
	node, part := 1+chance.Intn(m.nodes), chance.Intn(len(m.parts))
	if chance.Intn(20) == 0 {
		node, part = 1+chance.Intn(5), chance.Intn(4)
	}
	switch chance.Intn(12) {
	case 0, 1:
		return boot(node, m.lives[min(node, m.nodes)]+chance.Intn(3))
	case 2, 3:
		return dead(node)
	case 4:
		if chance.Intn(4) == 0 {
			return create()
		}
		return boot(node, 1)
	case 5, 6, 7:
		return join(node, part)
	}
	y := m.parts[min(part, len(m.parts)-1)]
	if learner, err := strconv.Atoi(y.learner); err == nil && chance.Intn(4) > 0 {
		node = learner
	}
	return ready(node, part, y.epoch+[]int{0, 0, 0, 0, 0, 0, -1, 1}[chance.Intn(8)])
}

// By the model, all places of two nodes and of three, each beside each, behind all events.
func TestAllPlans(t *testing.T) {
	for nodes, spots := range map[int][]string{
		2: {"1", "2", "12", "21", "1+2", "2+1"},
		3: {"1", "2", "3", "12", "13", "21", "23", "31", "32", "123", "132", "213", "231", "312", "321", "1+2", "1+3", "2+1", "2+3", "3+1", "3+2", "12+3", "13+2", "21+3", "23+1", "31+2", "32+1"},
	} {
		for copies := 1; copies <= nodes; copies++ {
			for _, a := range spots {
				for _, b := range spots {
					for _, life := range []int{0, 1, 2} {
						allEvents(t, nodes, copies, []string{a, b}, life)
					}
				}
			}
		}
	}
}

// allEvents: the two partitions are in the epochs 1 and 2, the node 1 in a life, the last node in the life 1.
func allEvents(t *testing.T, nodes, copies int, spots []string, life int) {
	t.Helper()
	m := &model{nodes: nodes, copies: copies}
	for i, s := range spots {
		chain, learner, _ := strings.Cut(s, "+")
		m.parts = append(m.parts, spot{epoch: 1 + i, chain: chain, learner: learner})
	}
	m.lives[nodes], m.lives[1] = 1, life
	p := of(m.tell())
	for _, x := range someEvents(nodes, 2) {
		isStep(t, p, m, x)
	}
}
