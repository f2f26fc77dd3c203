package helm_test

import (
	"encoding/binary"
	"fmt"
	"hash/crc32"
	"maps"
	"math"
	"math/rand"
	"slices"
	"strings"
	"testing"

	"heliograph/api"
	"heliograph/helm"
	"heliograph/plan"
	"heliograph/tape"
)

const (
	late = 1 << 30 // MaxEpoch
	far  = 1 << 40 // the greatest number of a request
)

// three is a layout whose chains are 1, 2 and 2, 3 at the beginning.
var three = api.Config{Nodes: 3, Copies: 2, Parts: 2}

// numbers are those at the ends of their type, and around those that the chapter names.
var numbers = []int{math.MinInt, math.MinInt + 1, math.MinInt32, -1, 0, 1, 2, 3, 4, 5, 6, 255, late - 1, late, late + 1, math.MaxInt32, 1 << 32, 1<<32 + 1, far - 1, far, far + 1, math.MaxInt - 1, math.MaxInt}

func boot(node, life int) api.Event { return api.Event{Kind: api.EvBoot, Node: node, N: life} }

func dead(node int) api.Event { return api.Event{Kind: api.EvDead, Node: node} }

func ready(node, part, epoch int) api.Event {
	return api.Event{Kind: api.EvReady, Node: node, Part: part, N: epoch}
}

func create() api.Event { return api.Event{Kind: api.EvCreate} }

func join(node, part int) api.Event { return api.Event{Kind: api.EvJoin, Node: node, Part: part} }

func beat(node, life int) api.Msg { return api.Msg{Kind: api.MsgBeat, From: node, Life: life} }

// done is what the tail says of a learner that is brought up.
func done(from, part, epoch, learner int) api.Msg {
	return api.Msg{Kind: api.MsgReady, From: from, Part: part, Epoch: epoch, Off: learner}
}

func wish(client, n, part int) api.Msg {
	return api.Msg{Kind: api.MsgReq, From: 10 + client, Req: api.Req{Client: client, N: n, Kind: api.ReqCreate, Part: part}}
}

// framed frames a text as chapter 2's words have it.
func framed(text string) string {
	var s []byte
	s = binary.LittleEndian.AppendUint32(s, uint32(len(text)))
	s = binary.LittleEndian.AppendUint32(s, crc32.ChecksumIEEE([]byte(text)))
	return string(s) + text
}

// written is an event's bytes as chapter 12's words have them.
func written(x api.Event) string {
	return fmt.Sprintf("li%dei%dei%dei%dee", x.Kind, x.Node, x.Part, x.N)
}

// file is the bytes of the plan's file.
func file(events ...api.Event) string {
	s := ""
	for _, x := range events {
		s += framed(written(x))
	}
	return s
}

// The words in which these tests write plans: "3 2 | 1:12 4:2+1 | 1=5 3=1" has 3 nodes, 2 copies; the partition 0 in the epoch 1 with the chain 1, 2; the partition 1 in the epoch 4 with the chain 2 and the learner 1; the node 1 in the life 5, the node 3 in the life 1.
func tell(p api.Plan) string {
	s := fmt.Sprint(p.Nodes, " ", p.Copies, " |")
	for _, x := range p.Parts {
		s += " " + tellPlace(x)
	}
	return s + " |" + tellLives(p.Lives)
}

func tellPlace(x api.Part) string {
	s := fmt.Sprintf("%d:", x.Epoch)
	for _, node := range x.Chain {
		s += fmt.Sprint(node)
	}
	if x.Learner != 0 {
		s += fmt.Sprintf("+%d", x.Learner)
	}
	return s
}

func tellLives(lives []api.Life) string {
	s := ""
	for _, x := range lives {
		s += fmt.Sprintf(" %d=%d", x.Node, x.Life)
	}
	return s
}

// tellMsg: "2: 1 4:2+1 | 1=5" tells the node 2 the partition 1's place, and the lives; "c3: 9 32" the client 3 of its request 9 the code 32. A message that has fields beside these, or lacks some of them, is told whole.
func tellMsg(m api.Msg) string {
	s := fmt.Sprintf("%d: %d %s |%s", m.To, m.Part, tellPlace(m.Place), tellLives(m.Lives))
	plain := api.Msg{Kind: api.MsgPlan, To: m.To, Part: m.Part, Epoch: m.Place.Epoch, Place: m.Place, Lives: m.Lives}
	if m.Kind == api.MsgResp {
		s = fmt.Sprintf("c%d: %d %d", m.To-10, m.Resp.N, m.Resp.Code)
		plain = api.Msg{Kind: api.MsgResp, To: m.To, Resp: api.Resp{Client: m.To - 10, N: m.Resp.N, Code: m.Resp.Code}}
	}
	if fmt.Sprint(m) != fmt.Sprint(plain) {
		return fmt.Sprintf("%+v", m)
	}
	return s
}

func tellAll(list []api.Msg) []string {
	var told []string
	for _, m := range list {
		told = append(told, tellMsg(m))
	}
	return told
}

// expand: "13: 0 2:12 | 1=1 3=1" is sent to the nodes 1 and 3.
func expand(words []string) []string {
	var list []string
	for _, word := range words {
		to, rest, _ := strings.Cut(word, ":")
		if strings.HasPrefix(to, "c") {
			list = append(list, word)
			continue
		}
		for _, c := range to {
			list = append(list, string(c)+":"+rest)
		}
	}
	return list
}

func is(t *testing.T, what string, got, want api.Errno) {
	t.Helper()
	if got != want {
		t.Errorf("%s: %d, want %d", what, got, want)
	}
}

// isSent: an error, and what is to be sent.
func isSent(t *testing.T, what string, got []api.Msg, e, want api.Errno, words ...string) {
	t.Helper()
	is(t, what, e, want)
	if told, list := tellAll(got), expand(words); !slices.Equal(told, list) {
		t.Errorf("%s sends\n%s, want\n%s", what, strings.Join(told, "\n"), strings.Join(list, "\n"))
	}
}

func isPlan(t *testing.T, what string, h *helm.Helm, want string) {
	t.Helper()
	if got := tell(h.Plan()); got != want {
		t.Errorf("%s: the plan is %s, want %s", what, got, want)
	}
}

// isFile: what the plan's file has; nothing, if there is none.
func isFile(t *testing.T, what string, d *tape.Tape, want string) {
	t.Helper()
	got, e := d.Read("plan")
	if got != want || e != api.OK && e != api.ErrNone {
		t.Errorf("%s: the file is %q (%d), want %q", what, got, e, want)
	}
}

// laid is a tape whose plan's file has these bytes, all of them safe.
func laid(t *testing.T, text string) *tape.Tape {
	t.Helper()
	d := tape.New(1 << 20)
	is(t, "Append to the tape", d.Append("plan", text), api.OK)
	is(t, "Sync of the tape", d.Sync("plan"), api.OK)
	return d
}

func opened(t *testing.T, d *tape.Tape, c api.Config) *helm.Helm {
	t.Helper()
	h, e := helm.Open(d, c)
	if e != api.OK || h == nil {
		t.Fatal("Open:", e)
	}
	return h
}

// begun is a master behind events, and its tape.
func begun(t *testing.T, c api.Config, events ...api.Event) (*helm.Helm, *tape.Tape) {
	t.Helper()
	d := tape.New(1 << 16)
	h := opened(t, d, c)
	for _, x := range events {
		_, e := h.Do(x)
		is(t, fmt.Sprint("Do of ", x), e, api.OK)
	}
	return h, d
}

// leave fills a tape up, but for so many bytes.
func leave(t *testing.T, d *tape.Tape, n int) {
	t.Helper()
	is(t, "Append of what fills", d.Append("x", strings.Repeat("x", d.Left()-n)), api.OK)
}

// behind is the plan behind events, by layer 12.
func behind(t *testing.T, c api.Config, events ...api.Event) api.Plan {
	t.Helper()
	p, e := plan.New(c)
	is(t, "New of layer 12", e, api.OK)
	for _, x := range events {
		p, _, e = plan.Apply(p, x)
		is(t, fmt.Sprint("Apply of ", x), e, api.OK)
	}
	return p
}

// call is any call that can change something.
type call struct {
	what string
	from func(h *helm.Helm) ([]api.Msg, api.Errno)
}

func do(x api.Event) call {
	return call{fmt.Sprint("Do of ", x), func(h *helm.Helm) ([]api.Msg, api.Errno) { return h.Do(x) }}
}

func hear(m api.Msg) call {
	return call{fmt.Sprintf("Hear of %+v", m), func(h *helm.Helm) ([]api.Msg, api.Errno) { return h.Hear(m) }}
}

func tick() call { return call{"Tick", (*helm.Helm).Tick} }

// does is a call that ends well.
func does(t *testing.T, h *helm.Helm, c call, after string, words ...string) {
	t.Helper()
	list, e := c.from(h)
	isSent(t, c.what, list, e, api.OK, words...)
	isPlan(t, c.what, h, after)
}

// refuses is a call that answers an error, and changes nothing.
func refuses(t *testing.T, h *helm.Helm, d *tape.Tape, c call, want api.Errno) {
	t.Helper()
	was, acts, left, names := tell(h.Plan()), d.Acts(), d.Left(), d.Names()
	list, e := c.from(h)
	isSent(t, c.what, list, e, want)
	isPlan(t, c.what, h, was)
	if d.Acts() != acts || d.Left() != left || !slices.Equal(d.Names(), names) {
		t.Error(c.what, "has changed the tape")
	}
}

// again opens a master anew, with the power gone, and of what wasn't safe nothing left.
func again(t *testing.T, d *tape.Tape, c api.Config) *helm.Helm {
	t.Helper()
	d.Off()
	d.On(nil)
	return opened(t, d, c)
}

// ticks is so many of them in which nothing is sent.
func ticks(t *testing.T, h *helm.Helm, n int) {
	t.Helper()
	for range n {
		list, e := h.Tick()
		isSent(t, "Tick", list, e, api.OK)
	}
}

func TestExample(t *testing.T) {
	h, _ := begun(t, three)
	isPlan(t, "Open", h, "3 2 | 1:12 1:23 |")
	does(t, h, hear(beat(1, 1)), "3 2 | 2:12 1:23 | 1=1", "1: 0 2:12 | 1=1", "1: 0 2:12 | 1=1", "1: 1 1:23 | 1=1")
}

func TestNil(t *testing.T) {
	for _, c := range []api.Config{three, {}, {Nodes: -1}} {
		h, e := helm.Open(nil, c)
		if h != nil || e != api.ErrNil {
			t.Error("Open of no tape:", h, e)
		}
	}
	var h *helm.Helm
	calls := []call{tick(), do(boot(1, 1)), do(api.Event{}), do(boot(9, -1)), hear(beat(1, 1)), hear(beat(0, 0)), hear(done(1, 0, 1, 1)), hear(done(0, 9, 0, 0)), hear(wish(1, 1, 2)), hear(wish(0, -1, 9))}
	for kind := range 12 {
		calls = append(calls, hear(api.Msg{Kind: kind}))
	}
	for _, c := range calls {
		list, e := c.from(h)
		isSent(t, "nil: "+c.what, list, e, api.ErrNil)
	}
	if p := h.Plan(); fmt.Sprint(p) != fmt.Sprint(api.Plan{}) {
		t.Error("nil: Plan:", p)
	}
}

// Layouts that layer 12 takes, and that it doesn't: these change nothing.
func TestOpenArguments(t *testing.T) {
	taken := 0
	for _, nodes := range numbers {
		for _, copies := range numbers {
			for _, parts := range numbers {
				c := api.Config{Nodes: nodes, Copies: copies, Parts: parts, Clients: copies, Seg: parts, Keep: -1, Horizon: math.MinInt, Room: math.MinInt}
				right := 1 <= nodes && nodes <= 5 && 1 <= copies && copies <= nodes && 2 <= parts && parts <= 4
				d := tape.New(99)
				d.Append("plan", "junk")
				h, e := helm.Open(d, c)
				what := fmt.Sprintf("Open of %+v", c)
				if right {
					taken++
					is(t, what, e, api.OK)
					isPlan(t, what, h, tell(behind(t, c)))
					continue
				}
				if h != nil || e != api.ErrArg || d.Acts() != 1 {
					t.Error(what, h, e, d.Acts())
				}
				isFile(t, what, d, "junk")
			}
		}
	}
	if taken != 15*3 {
		t.Error(taken)
	}
}

// ErrNil, ErrArg, ErrDown.
func TestOpenErrorsInOrder(t *testing.T) {
	d := laid(t, file(boot(1, 1))+"junk")
	d.Off()
	acts := d.Acts()
	for c, want := range map[api.Config]api.Errno{three: api.ErrDown, {}: api.ErrArg, {Nodes: 6, Copies: 2, Parts: 2}: api.ErrArg, {Nodes: 3, Copies: 3, Parts: 4}: api.ErrDown} {
		h, e := helm.Open(d, c)
		if h != nil || e != want || d.Acts() != acts {
			t.Error(c, h, e)
		}
	}
	d.On(nil)
	isPlan(t, "the power back", opened(t, d, three), "3 2 | 2:12 1:23 | 1=1")
}

// Of a file that isn't there, that is empty, or whole, nothing is cut, and none is made.
func TestOpenActsNot(t *testing.T) {
	d := tape.New(1 << 10)
	d.Append("plan.new", file(boot(1, 1)))
	d.Append("Plan", "junk")
	isPlan(t, "no file", opened(t, d, three), "3 2 | 1:12 1:23 |")
	if d.Acts() != 2 || !slices.Equal(d.Names(), []string{"Plan", "plan.new"}) {
		t.Error("no file:", d.Acts(), d.Names())
	}
	for text, want := range map[string]string{
		"":                                      "3 2 | 1:12 1:23 |",
		file(boot(2, 7)):                        "3 2 | 2:12 2:23 | 2=7",
		file(dead(2), boot(2, 7)):               "3 2 | 2:1 2:3 | 2=7",
		file(create(), create(), boot(3, late)): "3 2 | 1:12 2:23 2:31 1:12 | 3=1073741824",
	} {
		d := laid(t, text)
		// If there were an act, it would meet this.
		d.Arm(1)
		isPlan(t, fmt.Sprintf("%q", text), opened(t, d, three), want)
		if d.Acts() != 2 {
			t.Errorf("%q: %d acts", text, d.Acts())
		}
		isFile(t, "whole", d, text)
	}
}

// The same file is another plan in another layout.
func TestOpenOfOtherLayouts(t *testing.T) {
	text := file(dead(2), boot(1, 1), join(1, 1), dead(3), boot(4, 2))
	for c, want := range map[api.Config]string{
		three:                           "3 2 | 3:1 3:3+1 | 1=1",
		{Nodes: 4, Copies: 2, Parts: 2}: "4 2 | 3:1 3:3+1 | 1=1",
		{Nodes: 4, Copies: 1, Parts: 2}: "4 1 | 1:1 1:2 |",
		{Nodes: 4, Copies: 3, Parts: 2}: "4 3 | 4:1 5:4+1 | 1=1 4=2",
	} {
		d := laid(t, text)
		h := opened(t, d, c)
		isPlan(t, fmt.Sprint(c), h, want)
		isPlan(t, fmt.Sprint(c, " again"), again(t, d, c), want)
	}
}

// rests is what may stand behind right frames, of the plan 3 2 | 6:21 2:23 1:31 1:12 | 1=2 2=1: none of it is taken, nor what follows.
func rests() map[string]string {
	list := map[string]string{
		"a frame of nothing": framed(""), "eight bytes 00": strings.Repeat("\x00", 8), "seven of them": strings.Repeat("\x00", 7), "a text of another kind": framed("junk"), "no frame": "junk", "much that is none": strings.Repeat("junk", 999),
		"the greatest frame": framed(strings.Repeat("l", 1<<14)), "one that is too long": framed(strings.Repeat("l", 1<<14+1)), "a great length": "\xff\xff\xff\xff" + framed(written(boot(3, 1)))[4:], "a length with a sign": "\x0e\x00\x00\x80" + framed(written(boot(3, 1)))[4:],
		"two events in a frame": framed(written(boot(3, 1)) + written(dead(3))), "a frame in a frame": framed(file(boot(3, 1))), "an event without a frame": written(boot(3, 1)),
		"an old life": file(boot(1, 1)), "a life again": file(boot(1, 2)), "a learner that is there": file(join(1, 0)), "one that isn't": file(ready(1, 0, 5)), "a join without a life": file(join(3, 0)), "a node above Nodes": file(boot(4, 1)), "one more": file(dead(5)),
		"a partition too many": file(create()), "a partition that isn't wanted": file(join(1, 3)), "a number of another one": file(ready(2, 1, 2)),
	}
	for _, s := range []string{"", "l", "le", "i3e", "li1ei3ei0ei1e", "li1ei3ei0ee", "li1ei3ei0ei1ei0ee", "li01ei3ei0ei1ee", "li1ei3ei0ei1eee", " li1ei3ei0ei1ee", "li1ei0ei0ei1ee", "li1ei6ei0ei1ee", "li1ei3ei0ei0ee", "li1ei3ei0ei1073741825ee", "li1ei3ei1ei1ee", "li0ei3ei0ei1ee", "li6ei3ei0ei1ee", "li2ei3ei0ei1ee", "li4ei1ei0ei0ee", "li3ei3ei4ei1ee", "li5ei3ei0ei1ee", "li-1ei3ei0ei1ee"} {
		list[fmt.Sprintf("the text %q", s)] = framed(s)
	}
	whole := file(boot(3, 9))
	for i := range len(whole) {
		if i > 0 {
			list[fmt.Sprint("the first bytes, ", i)] = whole[:i]
		}
		for _, bits := range []byte{1, 16, 128, 255} {
			s := []byte(whole)
			s[i] ^= bits
			list[fmt.Sprint("another byte, ", i, " ", bits)] = string(s)
		}
	}
	return list
}

// The file is cut to the frames that the plan takes, in one act; what was right behind what wasn't is gone, too.
func TestOpenCuts(t *testing.T) {
	events := []api.Event{boot(1, 1), boot(2, 1), dead(1), boot(1, 2), join(1, 0), ready(1, 0, 5), create(), create()}
	const want = "3 2 | 6:21 2:23 1:31 1:12 | 1=2 2=1"
	right := file(events...)
	for what, rest := range rests() {
		for _, more := range []string{"", file(boot(3, 1)), file(boot(3, 2), dead(3), boot(3, 3)), file(events...)} {
			if strings.HasPrefix(what, "the first bytes") && more != "" {
				// What follows may make a frame of them: then another check stands there.
				more = "\xff" + more
			}
			d := laid(t, right+rest+more)
			d.Append("other", "other")
			h := opened(t, d, three)
			isPlan(t, what, h, want)
			isFile(t, what, d, right)
			if other, _ := d.Read("other"); d.Acts() != 4 || other != "other" {
				t.Error(what, d.Acts(), other)
			}
			// Opened again it is whole, and what comes next stands behind.
			h = opened(t, d, three)
			if d.Acts() != 4 {
				t.Error(what, "is cut again")
			}
			does(t, h, do(boot(3, 5)), "3 2 | 6:21 3:23 2:31 1:12 | 1=2 2=1 3=5", "123: 1 3:23 | 1=2 2=1 3=5", "123: 2 2:31 | 1=2 2=1 3=5")
			isPlan(t, what, again(t, d, three), "3 2 | 6:21 3:23 2:31 1:12 | 1=2 2=1 3=5")
		}
	}
}

// Where nothing is right, the file is empty behind it. Each event may be the last one that is taken.
func TestOpenCutsAnywhere(t *testing.T) {
	events := []api.Event{boot(1, 1), boot(2, 1), dead(1), boot(1, 2), join(1, 0), ready(1, 0, 5), create(), create(), boot(3, 4)}
	whole := file(events...)
	for n := range len(whole) + 1 {
		count, bytes := 0, 0
		for bytes+len(file(events[count:min(count+1, len(events))]...)) <= n && count < len(events) {
			bytes += len(file(events[count]))
			count++
		}
		d := laid(t, whole[:n])
		h := opened(t, d, three)
		what := fmt.Sprint("the first ", n, " bytes")
		isPlan(t, what, h, tell(behind(t, three, events[:count]...)))
		isFile(t, what, d, whole[:bytes])
	}
}

// The power goes in the one act of Open: it is done, and opened again nothing is to do.
func TestOpenPower(t *testing.T) {
	right := file(boot(1, 1), boot(2, 1))
	const want = "3 2 | 3:12 2:23 | 1=1 2=1"
	for _, rest := range []string{"j", "junk", file(boot(1, 1)), file(boot(1, 1), boot(3, 1)), framed("")} {
		for _, fates := range [][]int{nil, {1}, {-1}} {
			for _, safe := range []bool{true, false} {
				d := laid(t, right+rest)
				if !safe {
					d.Append("plan", "more")
				}
				acts := d.Acts()
				d.Arm(1)
				h, e := helm.Open(d, three)
				if h != nil || e != api.ErrDown || !d.Down() || d.Acts() != acts+1 {
					t.Errorf("%q: %v, %d", rest, h, e)
				}
				if h, e := helm.Open(d, three); h != nil || e != api.ErrDown {
					t.Errorf("%q, the power off: %v, %d", rest, h, e)
				}
				d.On(fates)
				isFile(t, rest, d, right)
				isPlan(t, rest, opened(t, d, three), want)
				if d.Acts() != acts+1 {
					t.Errorf("%q is cut again", rest)
				}
			}
			// Its next act isn't Open's any more.
			d := laid(t, right+rest)
			d.Arm(2)
			h := opened(t, d, three)
			isPlan(t, rest, h, want)
			_, e := h.Do(boot(3, 1))
			is(t, "Do in which the power goes", e, api.ErrDown)
		}
	}
}

// script is events, one behind the other, with what each of them sends, and the plan behind it.
var script = []struct {
	x     api.Event
	after string
	sent  []string
}{
	{dead(3), "3 2 | 1:12 2:2 |", nil}, // nobody is there who could be told
	{boot(2, 5), "3 2 | 2:12 3:2 | 2=5", []string{"2: 0 2:12 | 2=5", "2: 1 3:2 | 2=5"}},
	{boot(1, 1), "3 2 | 3:12 3:2 | 1=1 2=5", []string{"12: 0 3:12 | 1=1 2=5"}},
	{boot(3, 1), "3 2 | 3:12 3:2 | 1=1 2=5 3=1", nil}, // in no chain
	{create(), "3 2 | 3:12 3:2 1:31 | 1=1 2=5 3=1", []string{"123: 2 1:31 | 1=1 2=5 3=1"}},
	{join(3, 1), "3 2 | 3:12 4:2+3 1:31 | 1=1 2=5 3=1", []string{"123: 1 4:2+3 | 1=1 2=5 3=1"}},
	{boot(3, late), "3 2 | 3:12 5:2+3 2:31 | 1=1 2=5 3=1073741824", []string{"123: 1 5:2+3 | 1=1 2=5 3=1073741824", "123: 2 2:31 | 1=1 2=5 3=1073741824"}},
	{ready(3, 1, 5), "3 2 | 3:12 6:23 2:31 | 1=1 2=5 3=1073741824", []string{"123: 1 6:23 | 1=1 2=5 3=1073741824"}},
	{dead(2), "3 2 | 4:1 7:3 2:31 | 1=1 2=5 3=1073741824", []string{"123: 0 4:1 | 1=1 2=5 3=1073741824", "123: 1 7:3 | 1=1 2=5 3=1073741824"}},
	{create(), "3 2 | 4:1 7:3 2:31 1:12 | 1=1 2=5 3=1073741824", []string{"123: 3 1:12 | 1=1 2=5 3=1073741824"}},
	{dead(1), "3 2 | 4:1 7:3 3:3 2:2 | 1=1 2=5 3=1073741824", []string{"123: 2 3:3 | 1=1 2=5 3=1073741824", "123: 3 2:2 | 1=1 2=5 3=1073741824"}},
	{join(1, 2), "3 2 | 4:1 7:3 4:3+1 2:2 | 1=1 2=5 3=1073741824", []string{"123: 2 4:3+1 | 1=1 2=5 3=1073741824"}},
	{boot(1, 2), "3 2 | 5:1 7:3 5:3+1 2:2 | 1=2 2=5 3=1073741824", []string{"123: 0 5:1 | 1=2 2=5 3=1073741824", "123: 2 5:3+1 | 1=2 2=5 3=1073741824"}},
	{dead(1), "3 2 | 5:1 7:3 6:3 2:2 | 1=2 2=5 3=1073741824", []string{"123: 2 6:3 | 1=2 2=5 3=1073741824"}},
}

// Each event is a frame more, in two acts, and safe then.
func TestDo(t *testing.T) {
	d := tape.New(1 << 16)
	h := opened(t, d, three)
	var events []api.Event
	for i, c := range script {
		does(t, h, do(c.x), c.after, c.sent...)
		events = append(events, c.x)
		isFile(t, fmt.Sprint(c.x), d, file(events...))
		if d.Acts() != 2*len(events) {
			t.Error(c.x, d.Acts())
		}
		if i%3 == 1 {
			h = again(t, d, three)
			isPlan(t, fmt.Sprint(c.x, ", opened again"), h, c.after)
		}
	}
	for n := range len(script) {
		h, d := begun(t, three, events[:n+1]...)
		isPlan(t, "all of it", h, script[n].after)
		isPlan(t, "all of it, opened again", again(t, d, three), script[n].after)
	}
}

// someRefused is events that a plan of script's end doesn't take, and why.
var someRefused = map[api.Event]api.Errno{
	{}: api.ErrArg, {Kind: 6}: api.ErrArg, {Kind: -1, Node: 1}: api.ErrArg, boot(4, 1): api.ErrArg, boot(0, 1): api.ErrArg, boot(1, 0): api.ErrArg, boot(1, late+1): api.ErrArg, dead(0): api.ErrArg, dead(4): api.ErrArg, join(1, 4): api.ErrArg, join(4, 0): api.ErrArg, ready(1, -1, 1): api.ErrArg, ready(1, 0, 0): api.ErrArg,
	{Kind: api.EvCreate, N: 1}: api.ErrArg, {Kind: api.EvDead, Node: 1, Part: 1}: api.ErrArg, {Kind: math.MinInt, Node: math.MaxInt, Part: math.MinInt, N: math.MaxInt}: api.ErrArg,
	boot(1, 2): api.ErrOld, boot(1, 1): api.ErrOld, boot(3, late): api.ErrOld, dead(1): api.ErrOld, dead(3): api.ErrOld, join(1, 0): api.ErrOld, ready(1, 2, 5): api.ErrOld, ready(2, 2, 6): api.ErrOld, ready(1, 0, 5): api.ErrOld,
	create(): api.ErrMany,
}

func TestDoRefuses(t *testing.T) {
	var events []api.Event
	for _, c := range script {
		events = append(events, c.x)
	}
	h, d := begun(t, three, events...)
	for x, want := range someRefused {
		refuses(t, h, d, do(x), want)
	}
	isFile(t, "behind all that", d, file(events...))
	does(t, h, do(join(2, 2)), "3 2 | 5:1 7:3 7:3+2 2:2 | 1=2 2=5 3=1073741824", "123: 2 7:3+2 | 1=2 2=5 3=1073741824")

	// What layer 12 refuses it refuses without room, too; with the power off it is ErrDown.
	leave(t, d, 0)
	someRefused := maps.Clone(someRefused)
	someRefused[ready(1, 2, 6)] = api.ErrOld
	for x, want := range someRefused {
		refuses(t, h, d, do(x), want)
	}
	refuses(t, h, d, do(ready(2, 2, 7)), api.ErrFull)
	d.Off()
	for x := range someRefused {
		refuses(t, h, d, do(x), api.ErrDown)
	}
	refuses(t, h, d, do(ready(2, 2, 7)), api.ErrDown)
}

// With a byte less than a frame takes nothing is changed; with as many as it takes it is done.
func TestDoWithoutRoom(t *testing.T) {
	for _, c := range script {
		size := len(file(c.x))
		for n := range size + 1 {
			if n > 3 && n < size-3 {
				continue
			}
			var events []api.Event
			for _, b := range script {
				if b.after == c.after {
					break
				}
				events = append(events, b.x)
			}
			h, d := begun(t, three, events...)
			leave(t, d, n)
			if n < size {
				refuses(t, h, d, do(c.x), api.ErrFull)
				is(t, "Drop of what fills", d.Drop("x"), api.OK)
			}
			does(t, h, do(c.x), c.after, c.sent...)
			isPlan(t, "opened again", again(t, d, three), c.after)
		}
	}
}

// Behind ErrFull a shorter one may have room.
func TestDoOfAShorterOne(t *testing.T) {
	d := tape.New(len(file(boot(1, 1))))
	h := opened(t, d, three)
	refuses(t, h, d, do(boot(1, 10)), api.ErrFull)
	refuses(t, h, d, do(boot(1, late)), api.ErrFull)
	does(t, h, do(boot(1, 9)), "3 2 | 2:12 1:23 | 1=9", "1: 0 2:12 | 1=9")
	refuses(t, h, d, do(boot(2, 1)), api.ErrFull)
	isPlan(t, "opened again", again(t, d, three), "3 2 | 2:12 1:23 | 1=9")
}

// A tape that has as many files as it can has no room for the plan's.
func TestDoWithoutAFile(t *testing.T) {
	d := tape.New(1 << 10)
	for i := range api.MaxFiles {
		d.Append(fmt.Sprint("f", i), "")
	}
	h := opened(t, d, three)
	refuses(t, h, d, do(boot(1, 1)), api.ErrFull)
	d.Drop("f7")
	does(t, h, do(boot(1, 1)), "3 2 | 2:12 1:23 | 1=1", "1: 0 2:12 | 1=1")
}

// isDown: a master whose power went does nothing any more, but tells the plan that it had.
func isDown(t *testing.T, what string, h *helm.Helm, d *tape.Tape) {
	t.Helper()
	refuses(t, h, d, tick(), api.ErrDown)
	for _, x := range []api.Event{boot(1, late), boot(3, 1), dead(1), dead(2), create(), join(1, 0), ready(1, 0, 5), {}, boot(9, -1)} {
		refuses(t, h, d, do(x), api.ErrDown)
	}
	parts := len(h.Plan().Parts)
	for _, m := range []api.Msg{beat(1, late), done(1, 0, 1, 1), done(1, 1, 9, 9), done(1, 0, -1, -1), wish(1, 1, parts), wish(4, far, parts)} {
		refuses(t, h, d, hear(m), api.ErrDown)
	}
	// What the words name ahead of an event is told ahead of it.
	for _, m := range []api.Msg{beat(0, late), beat(6, 1), beat(1, 0), beat(1, late+1), done(0, 0, 1, 1), done(1, -1, 1, 1), done(1, parts, 1, 1), wish(0, 1, parts), wish(1, -1, parts), {Kind: api.MsgPlan}, {}} {
		refuses(t, h, d, hear(m), api.ErrArg)
	}
}

func TestDown(t *testing.T) {
	for n := range 7 {
		var events []api.Event
		for _, c := range script[:n] {
			events = append(events, c.x)
		}
		h, d := begun(t, three, events...)
		ticks(t, h, 4)
		d.Off()
		isDown(t, "the power off", h, d)
		d.On([]int{-1})
		isDown(t, "the power back", h, d)
		was := tell(h.Plan())
		// One that is opened anew on the same tape is of use.
		another := opened(t, d, three)
		isPlan(t, "opened again", another, was)
		_, e := another.Do(boot(2, late))
		is(t, "Do", e, api.OK)
		isDown(t, "beside another one", h, d)
		isPlan(t, "beside another one", h, was)
	}
}

// A beat that brings no event asks nothing of the tape, nor does a wish for a partition that is there: the words name no error.
func TestDownWithoutADo(t *testing.T) {
	h, d := begun(t, three, boot(1, 1), boot(2, 1))
	d.Off()
	does(t, h, hear(beat(1, 1)), "3 2 | 3:12 2:23 | 1=1 2=1", "1: 0 3:12 | 1=1 2=1", "1: 1 2:23 | 1=1 2=1")
	does(t, h, hear(wish(1, 1, 1)), "3 2 | 3:12 2:23 | 1=1 2=1", "c1: 1 0")
	refuses(t, h, d, hear(beat(1, 0)), api.ErrArg)
	h, d = begun(t, three, boot(1, 2))
	d.Off()
	refuses(t, h, d, hear(beat(1, 1)), api.ErrOld)
}

// part is the part of a call that is one event: its frame, what it sends, and the plan behind it.
type part struct {
	x     api.Event
	after string
	sent  []string
}

// isStopped: a call of several events, in each act of which the power goes, and where each of them finds no room: it ends there; what is ahead of that is done, and sent. start is the master ahead of the call, was its plan.
func isStopped(t *testing.T, start func() (*helm.Helm, *tape.Tape), was string, c call, list ...part) {
	t.Helper()
	h, d := start()
	text, _ := d.Read("plan")
	isPlan(t, "ahead of "+c.what, h, was)
	acts := d.Acts()
	_, e := c.from(h)
	is(t, c.what, e, api.OK)
	if d.Acts() != acts+2*len(list) {
		t.Error(c.what, "acts", d.Acts()-acts)
	}
	var sent []string
	for i, p := range list {
		what := fmt.Sprint(c.what, ", its event ", i)
		size := len(file(p.x))
		for act := 1; act <= 2; act++ {
			for k := range size + 1 {
				h, d := start()
				d.Arm(2*i + act)
				got, e := c.from(h)
				isSent(t, what, got, e, api.ErrDown, sent...)
				isPlan(t, what, h, was)
				isDown(t, what, h, d)
				d.On([]int{k})
				isDown(t, what, h, d)
				kept := was
				if k == size {
					kept = p.after
				}
				isPlan(t, fmt.Sprint(what, ", opened again, of the bytes ", k), opened(t, d, three), kept)
				if k < size {
					isFile(t, what, d, text)
				} else {
					isFile(t, what, d, text+file(p.x))
				}
			}
		}
		for _, n := range []int{0, size - 1} {
			h, d := start()
			leave(t, d, roomOf(list[:i])+n)
			got, e := c.from(h)
			isSent(t, what, got, e, api.ErrFull, sent...)
			isPlan(t, what, h, was)
			isFile(t, what, d, text)
			isPlan(t, what+", opened again", again(t, d, three), was)
		}
		sent = append(sent, p.sent...)
		was = p.after
		text += file(p.x)
	}
	h, d = start()
	leave(t, d, roomOf(list))
	_, e = c.from(h)
	is(t, c.what+" with just as much room", e, api.OK)
	isPlan(t, c.what+" with just as much room", h, was)
	isPlan(t, c.what+", opened again", again(t, d, three), was)
}

// roomOf is how many bytes events take.
func roomOf(list []part) int {
	n := 0
	for _, p := range list {
		n += len(file(p.x))
	}
	return n
}

func TestDoStops(t *testing.T) {
	var events []api.Event
	was := "3 2 | 1:12 1:23 |"
	for _, c := range script {
		ahead := slices.Clone(events)
		isStopped(t, func() (*helm.Helm, *tape.Tape) { return begun(t, three, ahead...) }, was, do(c.x), part{c.x, c.after, c.sent})
		if c.x == script[5].x {
			// isDown's events have no later life than the one that comes next.
			break
		}
		was = c.after
		events = append(events, c.x)
	}
}

func TestBeatArguments(t *testing.T) {
	for _, c := range []api.Config{three, {Nodes: 1, Copies: 1, Parts: 2}, {Nodes: 5, Copies: 3, Parts: 4}} {
		for _, from := range numbers {
			for _, life := range numbers {
				h, d := begun(t, c)
				if 1 <= from && from <= c.Nodes && 1 <= life && life <= late {
					p := behind(t, c, boot(from, life))
					list, e := h.Hear(beat(from, life))
					if e != api.OK || tell(h.Plan()) != tell(p) || len(list) == 0 {
						t.Error(c, from, life, e, tell(h.Plan()))
					}
					continue
				}
				refuses(t, h, d, hear(beat(from, life)), api.ErrArg)
			}
		}
	}
}

// Lives below the one that is known, it, and those above.
func TestBeatLives(t *testing.T) {
	for _, known := range []int{1, 2, 7, late - 1, late} {
		for _, life := range []int{1, 2, 6, 7, 8, late - 2, late - 1, late} {
			h, d := begun(t, three, boot(1, known), boot(3, 4))
			lives := fmt.Sprint("1=", life, " 3=4")
			switch {
			case life < known:
				refuses(t, h, d, hear(beat(1, life)), api.ErrOld)
			case life == known:
				acts := d.Acts()
				does(t, h, hear(beat(1, life)), "3 2 | 2:12 2:23 | "+lives, "1: 0 2:12 | "+lives, "1: 1 2:23 | "+lives)
				if d.Acts() != acts {
					t.Error("a beat of the same life acts")
				}
			default:
				does(t, h, hear(beat(1, life)), "3 2 | 3:12 2:23 | "+lives, "13: 0 3:12 | "+lives, "1: 0 3:12 | "+lives, "1: 1 2:23 | "+lives)
				isFile(t, "a newer life", d, file(boot(1, known), boot(3, 4), boot(1, life)))
			}
		}
	}
}

// What a beat says beside its node and life isn't read.
func TestBeatFields(t *testing.T) {
	m := api.Msg{Kind: api.MsgBeat, From: 2, Life: 3, To: 77, Part: -1, Epoch: -5, Off: math.MinInt, High: math.MaxInt, Place: api.Part{Epoch: 9, Chain: []int{9}, Learner: 9}, Lives: []api.Life{{Node: 2, Life: 99}}, Batch: api.Batch{Base: 5}, Table: []api.Seen{{Prod: 1}}, Req: api.Req{Kind: api.ReqCreate, Client: 1}, Resp: api.Resp{Client: 1}}
	h, _ := begun(t, three)
	does(t, h, hear(m), "3 2 | 2:12 2:23 | 2=3", "2: 0 2:12 | 2=3", "2: 1 2:23 | 2=3", "2: 0 2:12 | 2=3", "2: 1 2:23 | 2=3")
}

// Beats of nodes that want no partition, one, some, all.
func TestBeatJoins(t *testing.T) {
	all := []api.Event{boot(1, 1), boot(2, 1), boot(3, 1)}
	big := api.Config{Nodes: 4, Copies: 2, Parts: 4} // 12, 23, 34, 41
	for _, c := range []struct {
		what   string
		layout api.Config
		events []api.Event
		m      api.Msg
		joins  []api.Event // what comes into the file
		after  string
		sent   []string
	}{
		{"none: it has its chains", three, all, beat(2, 1), nil, "3 2 | 3:12 3:23 | 1=1 2=1 3=1", []string{"2: 0 3:12 | 1=1 2=1 3=1", "2: 1 3:23 | 1=1 2=1 3=1"}},
		{"none: chains are full", three, all, beat(3, 1), nil, "3 2 | 3:12 3:23 | 1=1 2=1 3=1", []string{"3: 0 3:12 | 1=1 2=1 3=1", "3: 1 3:23 | 1=1 2=1 3=1"}},
		{"none: it is in the chain", three, append(all, dead(1)), beat(2, 1), nil, "3 2 | 4:2 3:23 | 1=1 2=1 3=1", []string{"2: 0 4:2 | 1=1 2=1 3=1", "2: 1 3:23 | 1=1 2=1 3=1"}},
		{"none: another one learns", three, append(all, dead(1), join(3, 0)), beat(1, 1), nil, "3 2 | 5:2+3 3:23 | 1=1 2=1 3=1", []string{"1: 0 5:2+3 | 1=1 2=1 3=1", "1: 1 3:23 | 1=1 2=1 3=1"}},
		{"none: it learns", three, append(all, dead(1), join(1, 0)), beat(1, 1), nil, "3 2 | 5:2+1 3:23 | 1=1 2=1 3=1", []string{"1: 0 5:2+1 | 1=1 2=1 3=1", "1: 1 3:23 | 1=1 2=1 3=1"}},
		{"none: a copy is enough", api.Config{Nodes: 2, Copies: 1, Parts: 2}, []api.Event{boot(1, 1)}, beat(2, 3), []api.Event{boot(2, 3)}, "2 1 | 2:1 2:2 | 1=1 2=3", []string{"12: 1 2:2 | 1=1 2=3", "2: 0 2:1 | 1=1 2=3", "2: 1 2:2 | 1=1 2=3"}},
		{"one", three, append(all, dead(1)), beat(1, 1), []api.Event{join(1, 0)}, "3 2 | 5:2+1 3:23 | 1=1 2=1 3=1", []string{"123: 0 5:2+1 | 1=1 2=1 3=1", "1: 0 5:2+1 | 1=1 2=1 3=1", "1: 1 3:23 | 1=1 2=1 3=1"}},
		{"one, of another node", three, append(all, dead(1)), beat(3, 1), []api.Event{join(3, 0)}, "3 2 | 5:2+3 3:23 | 1=1 2=1 3=1", []string{"123: 0 5:2+3 | 1=1 2=1 3=1", "3: 0 5:2+3 | 1=1 2=1 3=1", "3: 1 3:23 | 1=1 2=1 3=1"}},
		{"one, in a newer life", three, append(all, dead(3)), beat(3, 9), []api.Event{boot(3, 9), join(3, 1)}, "3 2 | 3:12 5:2+3 | 1=1 2=1 3=9", []string{"123: 1 5:2+3 | 1=1 2=1 3=9", "3: 0 3:12 | 1=1 2=1 3=9", "3: 1 5:2+3 | 1=1 2=1 3=9"}},
		{"one, of a node that wasn't known", three, []api.Event{boot(2, 1), dead(1)}, beat(1, 1), []api.Event{boot(1, 1), join(1, 0)}, "3 2 | 4:2+1 2:23 | 1=1 2=1", []string{"12: 0 4:2+1 | 1=1 2=1", "1: 0 4:2+1 | 1=1 2=1", "1: 1 2:23 | 1=1 2=1"}},
		{"one, while it is in others", api.Config{Nodes: 3, Copies: 2, Parts: 3}, append(all, dead(2)), beat(1, 2), []api.Event{boot(1, 2), join(1, 1)}, "3 2 | 5:1 5:3+1 4:31 | 1=2 2=1 3=1", []string{"123: 0 5:1 | 1=2 2=1 3=1", "123: 2 4:31 | 1=2 2=1 3=1", "123: 1 5:3+1 | 1=2 2=1 3=1", "1: 0 5:1 | 1=2 2=1 3=1", "1: 1 5:3+1 | 1=2 2=1 3=1", "1: 2 4:31 | 1=2 2=1 3=1"}},
		{"all", three, append(all, dead(1), dead(3)), beat(3, 8), []api.Event{boot(3, 8), join(3, 0), join(3, 1)}, "3 2 | 5:2+3 5:2+3 | 1=1 2=1 3=8", []string{"123: 0 5:2+3 | 1=1 2=1 3=8", "123: 1 5:2+3 | 1=1 2=1 3=8", "3: 0 5:2+3 | 1=1 2=1 3=8", "3: 1 5:2+3 | 1=1 2=1 3=8"}},
		{"all, in the same life", three, append(all, dead(1), dead(3)), beat(1, 1), []api.Event{join(1, 0), join(1, 1)}, "3 2 | 5:2+1 5:2+1 | 1=1 2=1 3=1", []string{"123: 0 5:2+1 | 1=1 2=1 3=1", "123: 1 5:2+1 | 1=1 2=1 3=1", "1: 0 5:2+1 | 1=1 2=1 3=1", "1: 1 5:2+1 | 1=1 2=1 3=1"}},
		{"what is left", big, []api.Event{boot(3, 1), dead(1), dead(2), join(3, 0)}, beat(2, 5), []api.Event{boot(2, 5), join(2, 1), join(2, 3)}, "4 2 | 4:2+3 4:3+2 2:34 3:4+2 | 2=5 3=1", []string{"23: 0 4:2+3 | 2=5 3=1", "23: 1 4:3+2 | 2=5 3=1", "23: 3 3:4+2 | 2=5 3=1", "2: 0 4:2+3 | 2=5 3=1", "2: 1 4:3+2 | 2=5 3=1", "2: 2 2:34 | 2=5 3=1", "2: 3 3:4+2 | 2=5 3=1"}},
		{"all but one", big, []api.Event{boot(4, 1), dead(1), dead(3)}, beat(4, 2), []api.Event{boot(4, 2), join(4, 0), join(4, 1)}, "4 2 | 3:2+4 3:2+4 4:4 4:4 | 4=2", []string{"4: 2 4:4 | 4=2", "4: 3 4:4 | 4=2", "4: 0 3:2+4 | 4=2", "4: 1 3:2+4 | 4=2", "4: 0 3:2+4 | 4=2", "4: 1 3:2+4 | 4=2", "4: 2 4:4 | 4=2", "4: 3 4:4 | 4=2"}},
	} {
		h, d := begun(t, c.layout, c.events...)
		does(t, h, hear(c.m), c.after, c.sent...)
		isFile(t, c.what, d, file(append(slices.Clone(c.events), c.joins...)...))
		isPlan(t, c.what+", opened again", again(t, d, c.layout), c.after)
	}
}

// The beat's events stop where the power goes, or where there is no room for the next one.
func TestBeatStops(t *testing.T) {
	all := []api.Event{boot(1, 1), boot(2, 1), boot(3, 1)}
	start := func() (*helm.Helm, *tape.Tape) { return begun(t, three, append(all, dead(1), dead(3))...) }
	isStopped(t, start, "3 2 | 4:2 4:2 | 1=1 2=1 3=1", hear(beat(3, 8)),
		part{boot(3, 8), "3 2 | 4:2 4:2 | 1=1 2=1 3=8", nil},
		part{join(3, 0), "3 2 | 5:2+3 4:2 | 1=1 2=1 3=8", []string{"123: 0 5:2+3 | 1=1 2=1 3=8"}},
		part{join(3, 1), "3 2 | 5:2+3 5:2+3 | 1=1 2=1 3=8", []string{"123: 1 5:2+3 | 1=1 2=1 3=8"}})
	start = func() (*helm.Helm, *tape.Tape) { return begun(t, three, append(all, dead(2))...) }
	isStopped(t, start, "3 2 | 4:1 4:3 | 1=1 2=1 3=1", hear(beat(1, 2)),
		part{boot(1, 2), "3 2 | 5:1 4:3 | 1=2 2=1 3=1", []string{"123: 0 5:1 | 1=2 2=1 3=1"}},
		part{join(1, 1), "3 2 | 5:1 5:3+1 | 1=2 2=1 3=1", []string{"123: 1 5:3+1 | 1=2 2=1 3=1"}})
	isStopped(t, start, "3 2 | 4:1 4:3 | 1=1 2=1 3=1", hear(beat(2, 1)),
		part{join(2, 0), "3 2 | 5:1+2 4:3 | 1=1 2=1 3=1", []string{"123: 0 5:1+2 | 1=1 2=1 3=1"}},
		part{join(2, 1), "3 2 | 5:1+2 5:3+2 | 1=1 2=1 3=1", []string{"123: 1 5:3+2 | 1=1 2=1 3=1"}})
}

// A beat that found no room is heard again when there is some: what was done is done once.
func TestBeatGoesOn(t *testing.T) {
	h, d := begun(t, three, boot(1, 1), boot(2, 1), boot(3, 1), dead(1), dead(3))
	leave(t, d, len(file(boot(3, 8), join(3, 0))))
	list, e := h.Hear(beat(3, 8))
	isSent(t, "without room", list, e, api.ErrFull, "123: 0 5:2+3 | 1=1 2=1 3=8")
	d.Drop("x")
	does(t, h, hear(beat(3, 8)), "3 2 | 5:2+3 5:2+3 | 1=1 2=1 3=8", "123: 1 5:2+3 | 1=1 2=1 3=8", "3: 0 5:2+3 | 1=1 2=1 3=8", "3: 1 5:2+3 | 1=1 2=1 3=8")
	does(t, h, hear(beat(3, 8)), "3 2 | 5:2+3 5:2+3 | 1=1 2=1 3=8", "3: 0 5:2+3 | 1=1 2=1 3=8", "3: 1 5:2+3 | 1=1 2=1 3=8")
}

// learning is a master of whose partition 0 the node 1 learns, in the epoch 5; who says that it is brought up doesn't matter.
func learning(t *testing.T) (*helm.Helm, *tape.Tape) {
	t.Helper()
	return begun(t, three, boot(1, 1), boot(2, 1), boot(3, 1), dead(1), join(1, 0))
}

func TestReady(t *testing.T) {
	for from := 1; from <= 3; from++ {
		h, d := learning(t)
		does(t, h, hear(done(from, 0, 5, 1)), "3 2 | 6:21 3:23 | 1=1 2=1 3=1", "123: 0 6:21 | 1=1 2=1 3=1")
		isFile(t, "MsgReady", d, file(boot(1, 1), boot(2, 1), boot(3, 1), dead(1), join(1, 0), ready(1, 0, 5)))
		refuses(t, h, d, hear(done(from, 0, 5, 1)), api.ErrOld)
		refuses(t, h, d, hear(done(from, 0, 6, 1)), api.ErrOld)
		isPlan(t, "opened again", again(t, d, three), "3 2 | 6:21 3:23 | 1=1 2=1 3=1")
	}
	h, d := learning(t)
	for _, c := range []struct {
		from, part, epoch, learner int
		want                       api.Errno
	}{
		{2, 0, 4, 1, api.ErrOld}, {2, 0, 1, 1, api.ErrOld}, {2, 0, 6, 1, api.ErrOld}, {2, 0, late, 1, api.ErrOld}, {2, 0, 5, 2, api.ErrOld}, {2, 0, 5, 3, api.ErrOld}, {2, 1, 5, 1, api.ErrOld}, {2, 1, 3, 1, api.ErrOld}, {2, 1, 3, 3, api.ErrOld},
		{2, 0, 5, 0, api.ErrArg}, {2, 0, 5, -1, api.ErrArg}, {2, 0, 5, 4, api.ErrArg}, {2, 0, 5, 5, api.ErrArg}, {2, 0, 5, 6, api.ErrArg}, {2, 0, 0, 1, api.ErrArg}, {2, 0, -1, 1, api.ErrArg}, {2, 0, late + 1, 1, api.ErrArg}, {2, 1, 3, 0, api.ErrArg},
		{0, 0, 5, 1, api.ErrArg}, {-1, 0, 5, 1, api.ErrArg}, {4, 0, 5, 1, api.ErrArg}, {5, 0, 5, 1, api.ErrArg}, {11, 0, 5, 1, api.ErrArg}, {2, -1, 5, 1, api.ErrArg}, {2, 2, 5, 1, api.ErrArg}, {2, 3, 5, 1, api.ErrArg}, {2, 4, 5, 1, api.ErrArg},
	} {
		refuses(t, h, d, hear(done(c.from, c.part, c.epoch, c.learner)), c.want)
	}
	for _, n := range numbers {
		if n < 1 || n > 3 {
			refuses(t, h, d, hear(done(n, 0, 5, 1)), api.ErrArg)
			refuses(t, h, d, hear(done(2, 0, 5, n)), api.ErrArg)
		}
		if n < 0 || n > 1 {
			refuses(t, h, d, hear(done(2, n, 5, 1)), api.ErrArg)
		}
		if n < 1 || n > late {
			refuses(t, h, d, hear(done(2, 0, n, 1)), api.ErrArg)
		}
	}
	does(t, h, hear(done(2, 0, 5, 1)), "3 2 | 6:21 3:23 | 1=1 2=1 3=1", "123: 0 6:21 | 1=1 2=1 3=1")
}

// What a MsgReady says beside isn't read. A Node's Life and a High are none of it.
func TestReadyFields(t *testing.T) {
	h, _ := learning(t)
	m := done(2, 0, 5, 1)
	m.To, m.High, m.Life, m.Place, m.Lives, m.Req = -9, -9, -9, api.Part{Epoch: 1, Chain: []int{3}}, []api.Life{{Node: 9}}, api.Req{Client: -1}
	does(t, h, hear(m), "3 2 | 6:21 3:23 | 1=1 2=1 3=1", "123: 0 6:21 | 1=1 2=1 3=1")
}

func TestReadyStops(t *testing.T) {
	isStopped(t, func() (*helm.Helm, *tape.Tape) { return learning(t) }, "3 2 | 5:2+1 3:23 | 1=1 2=1 3=1", hear(done(3, 0, 5, 1)), part{ready(1, 0, 5), "3 2 | 6:21 3:23 | 1=1 2=1 3=1", []string{"123: 0 6:21 | 1=1 2=1 3=1"}})
}

// Wishes for partitions, one behind the other, from two of them on.
func TestCreate(t *testing.T) {
	h, d := begun(t, three, boot(2, 1), boot(3, 6))
	for _, c := range []struct {
		part  int
		after string
		sent  []string
	}{
		{-1, "2:12 3:23", []string{"c4: 9 1"}}, {math.MinInt, "2:12 3:23", []string{"c4: 9 1"}},
		{0, "2:12 3:23", []string{"c4: 9 0"}}, {1, "2:12 3:23", []string{"c4: 9 0"}},
		{3, "2:12 3:23", []string{"c4: 9 1"}},                                                    // there might be as many
		{4, "2:12 3:23", []string{"c4: 9 32"}}, {math.MaxInt, "2:12 3:23", []string{"c4: 9 32"}}, // but never so many
		{2, "2:12 3:23 1:31", []string{"23: 2 1:31 | 2=1 3=6", "c4: 9 0"}},
		{2, "2:12 3:23 1:31", []string{"c4: 9 0"}},
		{-1, "2:12 3:23 1:31", []string{"c4: 9 1"}}, {4, "2:12 3:23 1:31", []string{"c4: 9 32"}}, {5, "2:12 3:23 1:31", []string{"c4: 9 32"}},
		{3, "2:12 3:23 1:31 1:12", []string{"23: 3 1:12 | 2=1 3=6", "c4: 9 0"}},
		{3, "2:12 3:23 1:31 1:12", []string{"c4: 9 0"}}, {0, "2:12 3:23 1:31 1:12", []string{"c4: 9 0"}},
		{4, "2:12 3:23 1:31 1:12", []string{"c4: 9 32"}}, {5, "2:12 3:23 1:31 1:12", []string{"c4: 9 32"}}, {-1, "2:12 3:23 1:31 1:12", []string{"c4: 9 1"}}, {math.MinInt, "2:12 3:23 1:31 1:12", []string{"c4: 9 1"}},
	} {
		does(t, h, hear(wish(4, 9, c.part)), "3 2 | "+c.after+" | 2=1 3=6", c.sent...)
	}
	isFile(t, "two partitions more", d, file(boot(2, 1), boot(3, 6), create(), create()))
	isPlan(t, "opened again", again(t, d, three), "3 2 | 2:12 3:23 1:31 1:12 | 2=1 3=6")
}

func TestCreateArguments(t *testing.T) {
	for _, part := range []int{-1, 1, 2, 3, 4} {
		for _, client := range numbers {
			for _, n := range numbers {
				h, d := begun(t, three)
				if client < 1 || client > 4 || n < 0 || n > far {
					refuses(t, h, d, hear(wish(client, n, part)), api.ErrArg)
					continue
				}
				after, code := "3 2 | 1:12 1:23 |", map[int]int{-1: 1, 3: 1, 4: 32}[part]
				if part == 2 {
					after = "3 2 | 1:12 1:23 1:31 |"
				}
				does(t, h, hear(wish(client, n, part)), after, fmt.Sprintf("c%d: %d %d", client, n, code))
			}
		}
	}
}

// What a wish says beside isn't read; who sent it, neither: it is the Req's client that is told.
func TestCreateFields(t *testing.T) {
	h, _ := begun(t, three)
	m := wish(3, 0, 2)
	m.From, m.To, m.Part, m.Epoch, m.Life, m.Off, m.High, m.Place, m.Resp = -4, 44, 9, -9, -9, -9, -9, api.Part{Learner: 4}, api.Resp{Client: 1, N: 7, Parts: []int{1}}
	m.Req.Seq, m.Req.Off, m.Req.Max, m.Req.Gen, m.Req.Group, m.Req.Member, m.Req.Recs = -1, -1, -1, -1, strings.Repeat("g", 99), "\x00", []api.Rec{{Key: strings.Repeat("k", 99)}}
	does(t, h, hear(m), "3 2 | 1:12 1:23 1:31 |", "c3: 0 0")
}

// An error of the event's is the answer, and nobody is told.
func TestCreateStops(t *testing.T) {
	start := func() (*helm.Helm, *tape.Tape) { return begun(t, three, boot(2, 1)) }
	isStopped(t, start, "3 2 | 2:12 2:23 | 2=1", hear(wish(1, 5, 2)), part{create(), "3 2 | 2:12 2:23 1:31 | 2=1", []string{"2: 2 1:31 | 2=1"}})
	h, d := start()
	leave(t, d, 21)
	refuses(t, h, d, hear(wish(1, 5, 2)), api.ErrFull)
	// What needs no room is told.
	does(t, h, hear(wish(1, 5, 1)), "3 2 | 2:12 2:23 | 2=1", "c1: 5 0")
	does(t, h, hear(wish(1, 5, 3)), "3 2 | 2:12 2:23 | 2=1", "c1: 5 1")
	d.Drop("x")
	does(t, h, hear(wish(1, 5, 2)), "3 2 | 2:12 2:23 1:31 | 2=1", "2: 2 1:31 | 2=1", "c1: 5 0")
}

// Messages and requests of other kinds, with the fields of those that are heard.
func TestOtherKinds(t *testing.T) {
	h, d := learning(t)
	for _, kind := range append([]int{7, 8, 9, 10, 1<<32 + 3}, numbers...) {
		for _, m := range []api.Msg{beat(1, 2), beat(2, 1), done(2, 0, 5, 1), wish(1, 1, 2), {}} {
			m.Kind = kind
			if kind == api.MsgBeat || kind == api.MsgReady || kind == api.MsgReq && m.Req.Kind == api.ReqCreate {
				continue
			}
			refuses(t, h, d, hear(m), api.ErrArg)
		}
		if kind != api.ReqCreate {
			for _, part := range []int{0, 1, 2, 3, -1} {
				m := wish(1, 1, part)
				m.Req.Kind = kind
				refuses(t, h, d, hear(m), api.ErrArg)
			}
		}
	}
	isPlan(t, "behind all that", h, "3 2 | 5:2+1 3:23 | 1=1 2=1 3=1")
}

// Who isn't known misses nothing, however long.
func TestTickOfNobody(t *testing.T) {
	h, d := begun(t, three)
	ticks(t, h, 20)
	isPlan(t, "20 ticks", h, "3 2 | 1:12 1:23 |")
	if d.Acts() != 0 || len(d.Names()) > 0 {
		t.Error("ticks act")
	}
	// It is known from now on: no tick ahead of that counts.
	does(t, h, do(boot(2, 1)), "3 2 | 2:12 2:23 | 2=1", "2: 0 2:12 | 2=1", "2: 1 2:23 | 2=1")
	ticks(t, h, 4)
	does(t, h, tick(), "3 2 | 3:1 3:3 | 2=1", "2: 0 3:1 | 2=1", "2: 1 3:3 | 2=1")
	isFile(t, "left out", d, file(boot(2, 1), dead(2)))
}

// Suspect ticks are missed without anything, the next one leaves the node out; those behind it change nothing more.
func TestTick(t *testing.T) {
	for node, c := range map[int]struct {
		start, after string
		sent         []string
	}{
		1: {"3 2 | 2:12 1:23 | 1=1", "3 2 | 3:2 1:23 | 1=1", []string{"1: 0 3:2 | 1=1"}},
		2: {"3 2 | 2:12 2:23 | 2=1", "3 2 | 3:1 3:3 | 2=1", []string{"2: 0 3:1 | 2=1", "2: 1 3:3 | 2=1"}},
		3: {"3 2 | 1:12 2:23 | 3=1", "3 2 | 1:12 3:2 | 3=1", []string{"3: 1 3:2 | 3=1"}},
	} {
		h, d := begun(t, three)
		_, e := h.Hear(beat(node, 1))
		is(t, "Hear", e, api.OK)
		for range 4 {
			does(t, h, tick(), c.start)
		}
		does(t, h, tick(), c.after, c.sent...)
		acts := d.Acts()
		for range 9 {
			does(t, h, tick(), c.after)
		}
		if d.Acts() != acts || acts != 4 {
			t.Error("acts:", acts, d.Acts())
		}
		isFile(t, "left out", d, file(boot(node, 1), dead(node)))
	}
}

// Several at once: each of them, rising, with the plan behind it.
func TestTickOfSeveral(t *testing.T) {
	c := api.Config{Nodes: 5, Copies: 3, Parts: 4} // 123, 234, 345, 451
	h, d := begun(t, c, boot(5, 1), boot(3, 2), boot(1, 3), boot(2, 1))
	isPlan(t, "booted", h, "5 3 | 4:123 3:234 3:345 3:451 | 1=3 2=1 3=2 5=1")
	ticks(t, h, 3)
	if _, e := h.Hear(beat(2, 1)); e != api.OK {
		t.Error(e)
	}
	ticks(t, h, 1)
	const lives = " | 1=3 2=1 3=2 5=1"
	does(t, h, tick(), "5 3 | 6:2 4:24 5:4 5:4"+lives,
		"1235: 0 5:23"+lives, "1235: 3 4:45"+lives, // without the node 1
		"1235: 0 6:2"+lives, "1235: 1 4:24"+lives, "1235: 2 4:45"+lives, // the node 3
		"1235: 2 5:4"+lives, "1235: 3 5:4"+lives) // the node 5
	isFile(t, "three are left out", d, file(boot(5, 1), boot(3, 2), boot(1, 3), boot(2, 1), dead(1), dead(3), dead(5)))
	ticks(t, h, 2)
	// The node 2 is alone in the chain of the partition 0, and stays there.
	does(t, h, tick(), "5 3 | 6:2 5:4 5:4 5:4"+lives, "1235: 1 5:4"+lives)
	ticks(t, h, 9)
	isPlan(t, "opened again", again(t, d, c), "5 3 | 6:2 5:4 5:4 5:4"+lives)
}

// A node that is alone in each chain is never left out; the one behind it is.
func TestTickOfTheLastOne(t *testing.T) {
	c := api.Config{Nodes: 2, Copies: 2, Parts: 2}
	h, d := begun(t, c, boot(1, 1), boot(2, 1), dead(2))
	isPlan(t, "alone", h, "2 2 | 4:1 4:1 | 1=1 2=1")
	acts := d.Acts()
	ticks(t, h, 30)
	if d.Acts() != acts {
		t.Error("an old event acts")
	}
	// It is brought up: the ticks that the node 1 has missed are above Suspect, and what it has in chains with it goes.
	does(t, h, hear(beat(2, 1)), "2 2 | 5:1+2 5:1+2 | 1=1 2=1", "12: 0 5:1+2 | 1=1 2=1", "12: 1 5:1+2 | 1=1 2=1", "2: 0 5:1+2 | 1=1 2=1", "2: 1 5:1+2 | 1=1 2=1")
	does(t, h, tick(), "2 2 | 5:1+2 5:1+2 | 1=1 2=1")
	does(t, h, hear(done(1, 1, 5, 2)), "2 2 | 5:1+2 6:12 | 1=1 2=1", "12: 1 6:12 | 1=1 2=1")
	does(t, h, tick(), "2 2 | 5:1+2 7:2 | 1=1 2=1", "12: 1 7:2 | 1=1 2=1")
	// The learner isn't heard of either, in the end.
	ticks(t, h, 2)
	does(t, h, tick(), "2 2 | 6:1 7:2 | 1=1 2=1", "12: 0 6:1 | 1=1 2=1")
	ticks(t, h, 9)
}

// A node's misses stay when it is left out: brought back without a word of it, it is left out at once.
func TestMissesStay(t *testing.T) {
	h, _ := begun(t, three, boot(1, 1))
	ticks(t, h, 4)
	does(t, h, tick(), "3 2 | 3:2 1:23 | 1=1", "1: 0 3:2 | 1=1")
	does(t, h, do(join(1, 0)), "3 2 | 4:2+1 1:23 | 1=1", "1: 0 4:2+1 | 1=1")
	does(t, h, tick(), "3 2 | 5:2 1:23 | 1=1", "1: 0 5:2 | 1=1")
	// An event that tells of a newer life isn't a word of the node.
	does(t, h, do(boot(1, 2)), "3 2 | 5:2 1:23 | 1=2")
	does(t, h, do(join(1, 0)), "3 2 | 6:2+1 1:23 | 1=2", "1: 0 6:2+1 | 1=2")
	does(t, h, tick(), "3 2 | 7:2 1:23 | 1=2", "1: 0 7:2 | 1=2")
	does(t, h, hear(beat(1, 2)), "3 2 | 8:2+1 1:23 | 1=2", "1: 0 8:2+1 | 1=2", "1: 0 8:2+1 | 1=2", "1: 1 1:23 | 1=2")
	ticks(t, h, 4)
	does(t, h, tick(), "3 2 | 9:2 1:23 | 1=2", "1: 0 9:2 | 1=2")
}

// What is a word of a node, and what isn't.
func TestMisses(t *testing.T) {
	fresh := func(text string) (*helm.Helm, *tape.Tape) {
		h, d := begun(t, three, boot(1, 3), boot(2, 1))
		ticks(t, h, 3)
		isPlan(t, text, h, "3 2 | 3:12 2:23 | 1=3 2=1")
		return h, d
	}
	for what, c := range map[string]struct {
		calls []call
		left  int // ticks without anything, from then on
	}{
		"nothing": {nil, 1}, "a beat": {[]call{hear(beat(1, 3)), hear(beat(2, 1))}, 4}, "a newer life": {[]call{hear(beat(1, 4)), hear(beat(2, 2))}, 4}, "two beats": {[]call{hear(beat(1, 3)), hear(beat(2, 1)), tick(), hear(beat(1, 3)), hear(beat(2, 1))}, 4},
		"an elder life": {[]call{hear(beat(1, 2)), hear(beat(1, 1))}, 1}, "beats of others": {[]call{hear(beat(3, 1)), hear(beat(0, 3)), hear(beat(4, 3))}, 1}, "no life": {[]call{hear(beat(1, 0)), hear(beat(2, late+1))}, 1},
		"a MsgReady": {[]call{hear(done(1, 0, 3, 1)), hear(done(2, 0, 3, 2))}, 1}, "a wish": {[]call{hear(wish(1, 1, 1)), hear(wish(2, 1, -1))}, 1}, "other kinds": {[]call{hear(api.Msg{Kind: api.MsgHave, From: 1}), hear(api.Msg{From: 2, Life: 1})}, 1},
		"events": {[]call{do(boot(1, 5)), do(boot(2, 5))}, 1}, "Plan": {[]call{{"Plan", func(h *helm.Helm) ([]api.Msg, api.Errno) { h.Plan(); return nil, api.OK }}}, 1},
	} {
		h, _ := fresh(what)
		for _, x := range c.calls {
			x.from(h)
		}
		epoch := h.Plan().Parts[0].Epoch
		for i := range c.left {
			list, e := h.Tick()
			isSent(t, fmt.Sprint(what, ", tick ", i), list, e, api.OK)
		}
		if list, e := h.Tick(); e != api.OK || len(list) == 0 || h.Plan().Parts[0].Epoch == epoch {
			t.Error(what, ": it isn't left out:", tellAll(list), e, tell(h.Plan()))
		}
	}
}

// Each node's misses are its own.
func TestMissesOfEach(t *testing.T) {
	h, _ := begun(t, api.Config{Nodes: 5, Copies: 5, Parts: 2}, boot(1, 1), boot(2, 1), boot(3, 1), boot(4, 1), boot(5, 1))
	for node := 5; node >= 1; node-- {
		_, e := h.Hear(beat(node, 1))
		is(t, "Hear", e, api.OK)
		if node > 1 {
			ticks(t, h, 1)
		}
	}
	// The node 5 has missed 4 ticks by now, the node 1 none.
	for _, chain := range []string{"1234", "123", "12", "1"} {
		if list, e := h.Tick(); e != api.OK || len(list) != 10 {
			t.Error(chain, len(list), e)
		}
		for _, x := range h.Plan().Parts {
			got := fmt.Sprint(slices.Sorted(slices.Values(x.Chain)))
			if want := "[" + strings.Join(strings.Split(chain, ""), " ") + "]"; got != want {
				t.Error(got, want)
			}
		}
	}
	ticks(t, h, 9)
}

// Opened again, nobody has missed a tick yet.
func TestMissesOfANewMaster(t *testing.T) {
	h, d := begun(t, three, boot(1, 1))
	ticks(t, h, 4)
	h = again(t, d, three)
	ticks(t, h, 4)
	h = opened(t, d, three)
	ticks(t, h, 4)
	does(t, h, tick(), "3 2 | 3:2 1:23 | 1=1", "1: 0 3:2 | 1=1")
}

// A beat whose EvBoot finds no room is no word of the node; one whose EvJoin does, is.
func TestMissesWithoutRoom(t *testing.T) {
	h, d := begun(t, three, boot(1, 1))
	ticks(t, h, 4)
	leave(t, d, len(file(dead(1))))
	refuses(t, h, d, hear(beat(1, late)), api.ErrFull)
	does(t, h, tick(), "3 2 | 3:2 1:23 | 1=1", "1: 0 3:2 | 1=1")

	h, d = begun(t, three, boot(1, 1), dead(3), boot(2, 1))
	ticks(t, h, 4)
	leave(t, d, len(file(dead(1)))-1)
	refuses(t, h, d, hear(beat(1, 1)), api.ErrFull)
	d.Drop("x")
	isPlan(t, "the join's room", h, "3 2 | 3:12 3:2 | 1=1 2=1")
	does(t, h, tick(), "3 2 | 4:1 3:2 | 1=1 2=1", "12: 0 4:1 | 1=1 2=1")
	ticks(t, h, 3)
}

// A tick that finds no room has been one: it is missed by all.
func TestTickWithoutRoom(t *testing.T) {
	h, d := begun(t, three, boot(1, 1), boot(2, 1), boot(3, 1))
	ticks(t, h, 1)
	h.Hear(beat(2, 1))
	h.Hear(beat(3, 1))
	ticks(t, h, 3)
	leave(t, d, 5)
	refuses(t, h, d, tick(), api.ErrFull)
	d.Drop("x")
	const lives = " | 1=1 2=1 3=1"
	does(t, h, tick(), "3 2 | 4:2 4:3"+lives, "123: 0 4:2"+lives, "123: 1 4:3"+lives)
}

// The tick's events stop where the power goes, or where there is no room for the next one.
func TestTickStops(t *testing.T) {
	const lives = " | 1=1 2=1 3=1"
	start := func() (*helm.Helm, *tape.Tape) {
		h, d := begun(t, three, boot(1, 1), boot(2, 1), boot(3, 1))
		ticks(t, h, 4)
		return h, d
	}
	isStopped(t, start, "3 2 | 3:12 3:23"+lives, tick(),
		part{dead(1), "3 2 | 4:2 3:23" + lives, []string{"123: 0 4:2" + lives}},
		part{dead(2), "3 2 | 4:2 4:3" + lives, []string{"123: 1 4:3" + lives}})
	start = func() (*helm.Helm, *tape.Tape) {
		// Of the node 1 the event is old, and isn't written: it is alone in the partition 0.
		h, d := begun(t, api.Config{Nodes: 3, Copies: 3, Parts: 3}, boot(1, 1), boot(2, 1), boot(3, 1), dead(1), join(1, 2), dead(2))
		ticks(t, h, 4)
		return h, d
	}
	h, d := start()
	isPlan(t, "three copies", h, "3 3 | 6:3 6:3 7:3+1 | 1=1 2=1 3=1")
	does(t, h, tick(), "3 3 | 6:3 6:3 8:3 | 1=1 2=1 3=1", "123: 2 8:3 | 1=1 2=1 3=1")
	isFile(t, "of three one is written", d, file(boot(1, 1), boot(2, 1), boot(3, 1), dead(1), join(1, 2), dead(2), dead(1)))
}

// spoil changes all that a list and its spare room have.
func spoil[T any](list []T, mark T) {
	list = list[:cap(list)]
	for i := range list {
		list[i] = mark
	}
}

func spoilMsgs(list []api.Msg) {
	for _, m := range list {
		spoil(m.Place.Chain, 99)
		spoil(m.Lives, api.Life{Node: 99})
	}
	spoil(list, api.Msg{Kind: 99})
}

func spoilPlan(p api.Plan) {
	for _, x := range p.Parts {
		spoil(x.Chain, 99)
	}
	spoil(p.Parts, api.Part{Epoch: 99})
	spoil(p.Lives, api.Life{Node: 99})
}

// Two masters hear the same; of one of them all that it answers is spoilt.
func TestAnswersAreNew(t *testing.T) {
	one, _ := begun(t, three)
	two, _ := begun(t, three)
	calls := []call{hear(beat(1, 1)), hear(beat(2, 1)), hear(beat(3, 1)), hear(wish(1, 1, 2)), do(dead(1)), tick(), hear(beat(1, 1)), do(dead(3)), hear(beat(3, 2)), hear(wish(2, 1, 3)), do(ready(1, 0, 5)), hear(beat(2, 1)), tick(), tick(), tick(), tick(), tick(), hear(beat(1, 3)), hear(wish(3, 3, 4))}
	for _, c := range calls {
		want, e := c.from(one)
		got, f := c.from(two)
		isSent(t, c.what, got, f, e, tellAll(want)...)
		before := tell(two.Plan())
		spoilMsgs(got)
		isPlan(t, c.what+", its messages spoilt", two, before)
		spoilPlan(two.Plan())
		isPlan(t, c.what+", a plan spoilt", two, before)
		isPlan(t, c.what, one, before)
	}
}

// No two lists of an answer are one: each is spoilt alone.
func TestListsAreApart(t *testing.T) {
	answers := func() [][]api.Msg {
		h, _ := begun(t, three, boot(1, 1), boot(2, 1), boot(3, 1), dead(1), dead(3))
		var all [][]api.Msg
		for _, c := range []call{hear(beat(1, 2)), do(boot(2, 2)), hear(wish(1, 1, 2)), tick(), tick(), tick(), tick(), tick()} {
			list, _ := c.from(h)
			all = append(all, list)
		}
		return all
	}
	for i, list := range answers() {
		for k, m := range list {
			for _, change := range []func(m api.Msg){func(m api.Msg) { spoil(m.Place.Chain, 99) }, func(m api.Msg) { spoil(m.Lives, api.Life{Node: 99}) }} {
				got := answers()[i]
				change(got[k])
				got[k] = m
				if !slices.Equal(tellAll(got), tellAll(list)) {
					t.Error(i, k, tellAll(got))
				}
			}
		}
	}
	p := func() api.Plan { h, _ := begun(t, three, boot(1, 1), boot(2, 1), dead(1), create()); return h.Plan() }
	want := p()
	for i := range want.Parts {
		got := p()
		spoil(got.Parts[i].Chain, 99)
		got.Parts[i].Chain = want.Parts[i].Chain
		if tell(got) != tell(want) {
			t.Error(i, tell(got))
		}
	}
}

// A message that is handed in is neither changed nor kept.
func TestWhatIsHandedInIsNotKept(t *testing.T) {
	for _, m := range []api.Msg{beat(1, 1), beat(1, 7), beat(2, 9), done(2, 0, 5, 1), wish(1, 1, 2), wish(4, 9, 9), {Kind: api.MsgPlan, From: 1}} {
		h, _ := learning(t)
		room := append(make([]int, 0, 8), 1, 2, 3)
		m.Place.Chain, m.Req.Recs, m.Lives, m.Resp.Parts = room[:2], make([]api.Rec, 1, 4), append(make([]api.Life, 0, 4), api.Life{Node: 1, Life: 1}), make([]int, 1, 4)
		m.Table = []api.Seen{{Prod: 1, Slots: make([]api.Slot, 2)}}
		was := fmt.Sprint(m, room)
		list, _ := h.Hear(m)
		if fmt.Sprint(m, room) != was {
			t.Errorf("%s is %s", was, fmt.Sprint(m, room))
		}
		told, p := tellAll(list), tell(h.Plan())
		spoil(room, 99)
		spoil(m.Req.Recs, api.Rec{Off: 99})
		spoil(m.Lives, api.Life{Node: 99})
		spoil(m.Resp.Parts, 99)
		if !slices.Equal(tellAll(list), told) || tell(h.Plan()) != p {
			t.Error("what is handed in is kept:", was)
		}
	}
}

// model is a master by the chapter's words, upon layer 12: its file is a list of events.
type model struct {
	c      api.Config
	p      api.Plan
	file   []api.Event
	missed [6]int
	left   int       // room for bytes
	acts   int       // in the how-manieth from now on the power goes; 0: in none
	met    api.Event // the event in which it went
	down   bool
	sent   []string
}

func modelled(t *testing.T, c api.Config, room int) *model {
	t.Helper()
	return &model{c: c, p: behind(t, c), left: room}
}

func (m *model) tell(part, to int) {
	m.sent = append(m.sent, fmt.Sprintf("%d: %d %s |%s", to, part, tellPlace(m.p.Parts[part]), tellLives(m.p.Lives)))
}

// act counts an act of an event; true, if the power goes in it.
func (m *model) act(x api.Event) bool {
	m.acts--
	if m.acts == 0 {
		m.down, m.met = true, x
	}
	return m.down
}

func (m *model) do(x api.Event) api.Errno {
	p, turned, e := plan.Apply(m.p, x)
	size := len(file(x))
	switch {
	case m.down:
		return api.ErrDown
	case e != api.OK:
		return e
	case size > m.left:
		return api.ErrFull
	}
	if m.act(x) || m.act(x) {
		return api.ErrDown
	}
	m.left -= size
	m.file, m.p = append(m.file, x), p
	for _, part := range turned {
		for _, life := range p.Lives {
			m.tell(part, life.Node)
		}
	}
	return api.OK
}

func (m *model) beat(node, life int) api.Errno {
	if node < 1 || node > m.c.Nodes || life < 1 || life > late {
		return api.ErrArg
	}
	if plan.Life(m.p, node) > life {
		return api.ErrOld
	}
	if plan.Life(m.p, node) < life {
		if e := m.do(boot(node, life)); e == api.ErrDown || e == api.ErrFull {
			return e
		}
	}
	m.missed[node] = 0
	for part, x := range m.p.Parts {
		if len(x.Chain) < m.c.Copies && x.Learner == 0 && !slices.Contains(x.Chain, node) {
			if e := m.do(join(node, part)); e == api.ErrDown || e == api.ErrFull {
				return e
			}
		}
	}
	for part := range m.p.Parts {
		m.tell(part, node)
	}
	return api.OK
}

func (m *model) wish(client, n, part int) api.Errno {
	if client < 1 || client > 4 || n < 0 || n > far {
		return api.ErrArg
	}
	if part == len(m.p.Parts) {
		if e := m.do(create()); e == api.ErrDown || e == api.ErrFull {
			return e
		}
	}
	code := api.ErrArg
	if part >= 0 && part < len(m.p.Parts) {
		code = api.OK
	} else if part > 3 {
		code = api.ErrMany
	}
	m.sent = append(m.sent, fmt.Sprintf("c%d: %d %d", client, n, code))
	return api.OK
}

func (m *model) tick() api.Errno {
	if m.down {
		return api.ErrDown
	}
	for _, x := range m.p.Lives {
		m.missed[x.Node]++
	}
	for node, n := range m.missed {
		if n > 4 {
			if e := m.do(dead(node)); e != api.OK && e != api.ErrOld {
				return e
			}
		}
	}
	return api.OK
}

// step makes a call that may well come, of the model and of the master, and answers its error.
func (m *model) step(t *testing.T, chance *rand.Rand, h *helm.Helm) api.Errno {
	t.Helper()
	node := 1 + chance.Intn(m.c.Nodes)
	m.sent = nil
	var e api.Errno
	var c call
	switch chance.Intn(10) {
	case 0, 1:
		c, e = tick(), m.tick()
	case 2, 3, 4:
		life := plan.Life(m.p, node) + []int{0, 0, 0, 0, 1, 1, 5, -1}[chance.Intn(8)]
		node += chance.Intn(25) / 24
		c, e = hear(beat(node, life)), m.beat(node, life)
	case 5, 6, 7:
		part := chance.Intn(len(m.p.Parts))
		x := m.p.Parts[part]
		epoch, learner := x.Epoch-chance.Intn(8)/7, x.Learner
		if chance.Intn(8) == 0 {
			learner = node
		}
		c, e = hear(done(node, part, epoch, learner)), m.do(ready(learner, part, epoch))
	case 8:
		part := chance.Intn(6) - 1
		c, e = hear(wish(2, 9, part)), m.wish(2, 9, part)
	case 9:
		x := []api.Event{boot(node, 1+chance.Intn(9)), dead(node), join(node, chance.Intn(4)), create()}[chance.Intn(4)]
		c, e = do(x), m.do(x)
	}
	list, f := c.from(h)
	isSent(t, c.what, list, f, e, m.sent...)
	isPlan(t, c.what, h, tell(m.p))
	if t.Failed() {
		t.FailNow()
	}
	return e
}

// The power goes in any act of any call, and of what wasn't safe nothing is left, a part, or all: opened again, the plan is the one behind all that was answered, and perhaps of the event in which it went.
func TestPower(t *testing.T) {
	chance := rand.New(rand.NewSource(1313))
	gone, kept, counts := 0, 0, map[api.Errno]int{}
	for range 400 {
		nodes := 1 + chance.Intn(5)
		c := api.Config{Nodes: nodes, Copies: 1 + chance.Intn(nodes), Parts: 2 + chance.Intn(3)}
		room := []int{1 << 16, 1 << 16, 100 + chance.Intn(400)}[chance.Intn(3)]
		d := tape.New(room)
		m := modelled(t, c, room)
		h := opened(t, d, c)
		for range 60 {
			if chance.Intn(6) == 0 {
				m.acts = 1 + chance.Intn(6)
				d.Arm(m.acts)
			}
			e := m.step(t, chance, h)
			counts[e]++
			if e != api.ErrDown {
				continue
			}
			size := len(file(m.met))
			fate := []int{0, size, chance.Intn(size + 1), chance.Intn(999)}[chance.Intn(4)]
			d.On([]int{fate})
			isDown(t, "the power went", h, d)
			if fate%(size+1) == size {
				m.file, m.left = append(m.file, m.met), m.left-size
				m.p = behind(t, c, m.file...)
				kept++
			}
			gone++
			m.down, m.acts, m.missed = false, 0, [6]int{}
			if chance.Intn(3) == 0 {
				// Cut off, too, in an act in which the power goes.
				d.Arm(1)
				if _, e := helm.Open(d, c); e == api.ErrDown {
					d.On(nil)
				}
				d.Arm(0)
			}
			h = opened(t, d, c)
			isPlan(t, "opened again", h, tell(m.p))
			isFile(t, "opened again", d, file(m.file...))
		}
	}
	if gone < 500 || kept < 100 || counts[api.OK] < 5000 || counts[api.ErrFull] < 100 || counts[api.ErrOld] < 1000 || counts[api.ErrArg] < 50 {
		t.Error("seldom:", gone, kept, counts)
	}
}

// Rows of events, the power going in each act of each of them, with each fate.
func TestPowerInEachAct(t *testing.T) {
	var events []api.Event
	for _, c := range script {
		events = append(events, c.x)
	}
	for n, x := range events {
		for act := 1; act <= 2; act++ {
			for k := range len(file(x)) + 1 {
				h, d := begun(t, three, events[:n]...)
				was := tell(h.Plan())
				d.Arm(act)
				refusesButActs(t, h, do(x))
				isPlan(t, fmt.Sprint(x), h, was)
				d.On([]int{k})
				if k == len(file(x)) {
					was = script[n].after
				}
				h = opened(t, d, three)
				isPlan(t, fmt.Sprint(x, ", opened again"), h, was)
				// What comes next is kept as ever.
				p := h.Plan()
				for _, x := range events[n:] {
					if q, _, e := plan.Apply(p, x); e == api.OK {
						_, e := h.Do(x)
						is(t, fmt.Sprint(x), e, api.OK)
						p = q
					}
				}
				isPlan(t, "the others", again(t, d, three), tell(p))
			}
		}
	}
}

// refusesButActs is a call in which the power goes.
func refusesButActs(t *testing.T, h *helm.Helm, c call) {
	t.Helper()
	list, e := c.from(h)
	isSent(t, c.what, list, e, api.ErrDown)
}

// No call panics, and each ends, whatever it is given.
func TestAny(t *testing.T) {
	chance := rand.New(rand.NewSource(13))
	n := func() int { return numbers[chance.Intn(len(numbers))] }
	small := func() int { return chance.Intn(8) - 1 }
	for range 300 {
		c := three
		if chance.Intn(3) == 0 {
			c = api.Config{Nodes: small(), Copies: small(), Parts: small()}
		}
		d := tape.New(n())
		d.Append("plan", strings.Repeat("junk", chance.Intn(3)))
		h, _ := helm.Open(d, c)
		for range 30 {
			d.Arm(chance.Intn(40))
			h.Do(api.Event{Kind: small(), Node: n(), Part: n(), N: n()})
			h.Do(api.Event{Kind: small(), Node: small(), Part: small(), N: n()})
			h.Hear(api.Msg{Kind: n(), From: n(), To: n(), Part: n(), Epoch: n(), Off: n(), High: n(), Life: n(), Req: api.Req{Client: n(), N: n(), Kind: n(), Part: n()}})
			h.Hear(api.Msg{Kind: small(), From: small(), Part: small(), Epoch: small(), Off: small(), Life: small(), Req: api.Req{Client: small(), N: n(), Kind: 8, Part: small()}})
			h.Tick()
			if p := h.Plan(); h != nil && !plan.Good(p) {
				t.Error("no plan:", tell(p))
			}
		}
	}
}
