package loader_test

import (
	"fmt"
	"math"
	"math/rand/v2"
	"reflect"
	"slices"
	"strconv"
	"strings"
	"testing"
	"unsafe"

	"blockway/api"
	"blockway/fields"
	"blockway/layout"
	"blockway/loader"
	"blockway/netmap"
)

// lines returns a text in which semicolons were the ends of lines.
func lines(text string) string {
	return strings.ReplaceAll(text, ";", "\n")
}

// network returns the network of a layout without errors, which Load may refuse; semicolons end lines.
func network(t *testing.T, text string) api.Net {
	t.Helper()
	l, _, e := fields.Lines(lines(text))
	if e != api.OK {
		t.Fatalf("Lines(%q) has the error %d", text, e)
	}
	d, _, e := layout.Parse(l)
	if e != api.OK {
		t.Fatalf("Parse of %q has the error %d", text, e)
	}
	n, _, e := netmap.Build(d)
	if e != api.OK {
		t.Fatalf("Build of %q has the error %d", text, e)
	}
	return n
}

// sameNet treats nil and empty lists alike.
func sameNet(a, b api.Net) bool {
	return slices.Equal(a.Blocks, b.Blocks) && slices.EqualFunc(a.Next, b.Next, slices.Equal) && slices.Equal(a.Spurs, b.Spurs) && slices.Equal(a.Robots, b.Robots) && a.Config == b.Config
}

// sameCap treats nil and empty lists alike.
func sameCap(a, b api.Cap) bool {
	return a.Girth == b.Girth && slices.Equal(a.Cycle, b.Cycle) && a.Slots == b.Slots && a.Cap == b.Cap
}

// short keeps the messages of tests with long arguments readable.
func short(x any) string {
	return fmt.Sprintf("%.400s", fmt.Sprintf("%+v", x))
}

// capOf returns a Cap; no walk means that there is no closed walk.
func capOf(slots, most int, walk ...int) api.Cap {
	return api.Cap{Girth: len(walk), Cycle: walk, Slots: slots, Cap: most}
}

func checkFleet(t *testing.T, n api.Net, want api.Cap) {
	t.Helper()
	if got, e := loader.Fleet(n); e != api.OK || !sameCap(got, want) {
		t.Errorf("Fleet(%s) = %+v, %d, want %+v, 0", short(n), got, e, want)
	}
}

// checkLoad checks that Load returns this network and this cap; semicolons of the text end lines.
func checkLoad(t *testing.T, text string, n api.Net, c api.Cap) {
	t.Helper()
	text = lines(text)
	got, most, line, e := loader.Load(text)
	if e != api.OK || line != 0 || !sameNet(got, n) || !sameCap(most, c) {
		t.Errorf("Load(%.400q) = %s, %+v, %d, %d, want %s, %+v, 0, 0", text, short(got), most, line, e, short(n), c)
	}
}

// checkRefused checks an error of Load, with zero values beside it; semicolons of the text end lines.
func checkRefused(t *testing.T, text string, line int, want api.Errno) {
	t.Helper()
	text = lines(text)
	n, c, at, e := loader.Load(text)
	if e != want || at != line || !sameNet(n, api.Net{}) || !sameCap(c, api.Cap{}) {
		t.Errorf("Load(%.400q) = %s, %+v, %d, %d, want none, %d, %d", text, short(n), c, at, e, line, want)
	}
}

// checkSave checks that Save returns this text; semicolons of the text end lines.
func checkSave(t *testing.T, n api.Net, want string) {
	t.Helper()
	want = lines(want)
	if got, e := loader.Save(n); e != api.OK || got != want {
		t.Errorf("Save(%s) = %.400q, %d, want %.400q, 0", short(n), got, e, want)
	}
}

// checkNotValid checks Fleet and Save of a network that is not valid.
func checkNotValid(t *testing.T, n api.Net) {
	t.Helper()
	if c, e := loader.Fleet(n); e != api.ErrInvalid || !sameCap(c, api.Cap{}) {
		t.Errorf("Fleet(%s) = %+v, %d, want none, %d", short(n), c, e, api.ErrInvalid)
	}
	if s, e := loader.Save(n); e != api.ErrInvalid || s != "" {
		t.Errorf("Save(%s) = %.400q, %d, want none, %d", short(n), s, e, api.ErrInvalid)
	}
}

// pair is the example of the chapter.
const pair = "block a 0 0;block b 5 -5;lane a b a;depot d a b 2;robot d 2"

// mixed declares everything in a mixed order; its girth is 3 by the blocks 0, 2 and 1.
const mixed = "block a 0 0;depot d a a 4;config 8 4 3 16;robot d 1;block b -9999 9999;station s b a 1;lane b a;block c 1 2;lane a c b;depot e c b 2;robot e 2"

// saved is the text that Save returns for mixed.
const saved = "block a 0 0;block b -9999 9999;block c 1 2;lane a c;lane b a;lane c b;depot d a a 4;station s b a 1;depot e c b 2;robot d 1;robot e 2;config 8 4 3 16;"

// ring returns a circle of blocks b0, b1 and so on, with two depots of four slots each, d and e.
func ring(blocks int) string {
	var text strings.Builder
	for i := range blocks {
		text.WriteString("block b" + strconv.Itoa(i) + " 0 0;")
	}
	for i := range blocks {
		text.WriteString("lane b" + strconv.Itoa(i) + " b" + strconv.Itoa((i+1)%blocks) + ";")
	}
	return text.String() + "depot d b0 b1 4;depot e b1 b0 4;"
}

// robots returns lines of up to eight robots in the depots of ring.
func robots(count int) string {
	var text strings.Builder
	for i := range count {
		text.WriteString("robot " + []string{"d ", "e "}[i%2] + strconv.Itoa(4-i/2) + ";")
	}
	return text.String()
}

// longest returns a layout with so many robots, whose text is as long as Save can make it.
func longest(robots int) string {
	var text strings.Builder
	name := func(i int) string { return "abcdefghij" + strconv.Itoa(10+i) }
	for i := range api.MaxBlocks {
		text.WriteString("block " + name(i) + " -9999 -9999;")
	}
	for i := range api.MaxBlocks {
		to := []int{(i + 1) % 24, (i + 2) % 24, (i + 3) % 24, (i + 4) % 24}
		slices.Sort(to)
		for _, k := range to {
			text.WriteString("lane " + name(i) + " " + name(k) + ";")
		}
	}
	for i := range api.MaxSpurs {
		word := "station"
		if i < 2 {
			word = "depot"
		}
		text.WriteString(word + " " + name(30+i) + " " + name(i) + " " + name(23) + " 4;")
	}
	for i := range robots {
		text.WriteString("robot " + name(30+i/4) + " " + strconv.Itoa(i%4+1) + ";")
	}
	return text.String() + "config 8 4 3 16;"
}

// P11.1: the girth and its walk, the slots, and the cap, which is the smaller one.
func TestFleet(t *testing.T) {
	for _, c := range []struct {
		text string
		want api.Cap
	}{
		{pair, capOf(2, 1, 0, 1)},
		{"block a 0 0;block b 5 -5;lane a b a;depot d a b 1;depot e b a 4", capOf(5, 1, 0, 1)},
		{mixed, capOf(6, 2, 0, 2, 1)},
		{ring(3), capOf(8, 2, 0, 1, 2)},
		{ring(9), capOf(8, 8, 0, 1, 2, 3, 4, 5, 6, 7, 8)},
		{ring(10), capOf(8, 8, 0, 1, 2, 3, 4, 5, 6, 7, 8, 9)},
		// The girth minus 1 is one less than the slots, the same, and one more.
		{"block a 0 0;block b 0 0;block c 0 0;block d 0 0;lane a b c d a;depot z a a 4", capOf(4, 3, 0, 1, 2, 3)},
		{"block a 0 0;block b 0 0;block c 0 0;block d 0 0;lane a b c d a;depot z a a 3", capOf(3, 3, 0, 1, 2, 3)},
		{"block a 0 0;block b 0 0;block c 0 0;block d 0 0;lane a b c d a;depot z a a 2", capOf(2, 2, 0, 1, 2, 3)},
		// The first one of two shortest walks, and a shortest one that comes later.
		{"block a 0 0;block b 0 0;block c 0 0;lane a c a b a;depot z a a 1", capOf(1, 1, 0, 1)},
		{"block a 0 0;block b 0 0;block c 0 0;lane a b c a;lane c b;depot z a a 2", capOf(2, 1, 1, 2)},
		// The slots of stations do not count.
		{ring(3) + "station s b0 b0 4;station t b0 b2 4", capOf(8, 2, 0, 1, 2)},
		{"block a 0 0;station s a a 4;depot d a a 1;station t a a 3", capOf(1, 1)},
		// Without a closed walk; spurs are no lanes.
		{"block a 0 0;depot d a a 1", capOf(1, 1)},
		{"block a 0 0;block b 0 0;depot d b a 4;depot e a b 3", capOf(7, 7)},
		{"block a 0 0;block b 0 0;lane a b;depot d b a 3", capOf(3, 3)},
		{"block a 0 0;block b 0 0;block c 0 0;lane a b c;lane a c;depot d c a 4;depot e c a 4;depot f c a 4;depot g c a 4;depot h c a 4;depot i c a 4", capOf(24, 24)},
		{longest(api.MaxRobots), capOf(8, 5, 0, 4, 8, 12, 16, 20)},
	} {
		checkFleet(t, network(t, c.text), c.want)
	}
}

// P11.1: Fleet takes networks that Load refuses, and does not count their robots.
func TestFleetOfRefused(t *testing.T) {
	for count := range 9 {
		checkFleet(t, network(t, ring(3)+robots(count)), capOf(8, 2, 0, 1, 2))
		checkFleet(t, network(t, ring(3)+"block x 0 0;"+robots(count)), capOf(8, 2, 0, 1, 2))
		checkFleet(t, network(t, ring(3)+"block x 0 0;block y 0 0;lane x y x;lane x b0;"+robots(count)), capOf(8, 1, 3, 4))
	}
}

// P11.2: the examples of the chapter and of the document.
func TestLoadExamples(t *testing.T) {
	checkLoad(t, pair, api.Net{
		Blocks: []api.Block{{Name: "a", X: 0, Y: 0}, {Name: "b", X: 5, Y: -5}},
		Next:   [][]int{{1}, {0}},
		Spurs:  []api.Spur{{Name: "d", Depot: true, In: 0, Out: 1, Slots: 2, Base: 2}},
		Robots: []int{3},
		Config: api.Config{Queue: 4, Aging: 2, Detours: 1, Patience: 8},
	}, capOf(2, 1, 0, 1))
	checkRefused(t, pair+";robot d 1", 0, api.ErrFleet)
	checkLoad(t, "block a 0 0;block b 1 0;lane a b a;depot d a b 2;station s b a 1;station t b a 1;robot d 2", api.Net{
		Blocks: []api.Block{{Name: "a"}, {Name: "b", X: 1}},
		Next:   [][]int{{1}, {0}},
		Spurs: []api.Spur{
			{Name: "d", Depot: true, In: 0, Out: 1, Slots: 2, Base: 2},
			{Name: "s", In: 1, Out: 0, Slots: 1, Base: 4},
			{Name: "t", In: 1, Out: 0, Slots: 1, Base: 5},
		},
		Robots: []int{3},
		Config: api.Config{Queue: 4, Aging: 2, Detours: 1, Patience: 8},
	}, capOf(2, 1, 0, 1))
}

// P11.2: declarations in a mixed order, comments, spaces, tabs and empty lines.
func TestLoad(t *testing.T) {
	n := api.Net{
		Blocks: []api.Block{{Name: "a"}, {Name: "b", X: -9999, Y: 9999}, {Name: "c", X: 1, Y: 2}},
		Next:   [][]int{{2}, {0}, {1}},
		Spurs: []api.Spur{
			{Name: "d", Depot: true, In: 0, Out: 0, Slots: 4, Base: 3},
			{Name: "s", In: 1, Out: 0, Slots: 1, Base: 7},
			{Name: "e", Depot: true, In: 2, Out: 1, Slots: 2, Base: 8},
		},
		Robots: []int{3, 9},
		Config: api.Config{Queue: 8, Aging: 4, Detours: 3, Patience: 16},
	}
	c := capOf(6, 2, 0, 2, 1)
	for _, text := range []string{
		mixed,
		mixed + ";",
		mixed + " # the end",
		";;#\x00\xff;" + mixed + ";;\t;",
		strings.ReplaceAll(mixed, ";", "# x # y;\t "),
		strings.ReplaceAll(mixed, " ", " \t  "),
		mixed + ";" + strings.Repeat(" ", api.MaxText-len(mixed)-1),
		mixed + "#" + strings.Repeat("\x01", api.MaxText-len(mixed)-1),
	} {
		checkLoad(t, text, n, c)
	}
}

// P11.2: the errors of lines, declarations and networks, with their lines.
func TestLoadErrors(t *testing.T) {
	for _, c := range []struct {
		text string
		line int
		want api.Errno
	}{
		{strings.Repeat(";", api.MaxText+1), 0, api.ErrText},
		{mixed + strings.Repeat(" ", api.MaxText-len(mixed)+1), 0, api.ErrText},
		{mixed + ";\x00", 12, api.ErrByte},
		{"\r;" + mixed, 1, api.ErrByte},
		{pair + "\x7f", 5, api.ErrByte},
		{pair + ";; abcdefghijklm", 7, api.ErrLong},
		{"blocks a 0 0;" + pair, 1, api.ErrWord},
		{pair + ";#;Block c 0 0", 7, api.ErrWord},
		{pair + ";block", 6, api.ErrFields},
		{pair + ";lane a", 6, api.ErrFields},
		{pair + ";config 1 1 1", 6, api.ErrFields},
		{pair + ";block 1 1 1", 6, api.ErrName},
		{pair + ";block c 1 x", 6, api.ErrNumber},
		{pair + ";block c 1 10000", 6, api.ErrNumber},
		{pair + ";;block a 0 0", 7, api.ErrDuplicate},
		{pair + ";station d a a 1", 6, api.ErrDuplicate},
		{"lane a b;" + pair, 1, api.ErrUnknown},
		{"robot d 1;" + pair, 1, api.ErrUnknown},
		{pair + ";lane b b", 6, api.ErrLoop},
		{pair + ";lane a b", 6, api.ErrTwice},
		{pair + ";config 1 1 1 1;;config 1 1 1 1", 8, api.ErrTwice},
		{pair + ";station s a b 5", 6, api.ErrSlots},
		{pair + ";robot d 3", 6, api.ErrSlots},
		{pair + ";robot d 2", 6, api.ErrTaken},
		{ring(24) + "block x 0 0", 51, api.ErrMany},
		{ring(3) + robots(8) + "depot f b0 b1 1;robot f 1", 18, api.ErrMany},
		{pair + ";config 0 0 0 1", 6, api.ErrRange},
		{"", 0, api.ErrBlocks},
		{"# block a 0 0;;", 0, api.ErrBlocks},
		{"config 1 1 1 1", 0, api.ErrBlocks},
		{"block a 0 0", 0, api.ErrDepot},
		{"block a 0 0;block b 0 0;lane a b a;station s a b 1", 0, api.ErrDepot},
	} {
		checkRefused(t, c.text, c.line, c.want)
	}
}

// P11.2: of several errors, that of the step that comes first, wherever it stands.
func TestLoadErrorOrder(t *testing.T) {
	// Each text has an error of one step; none of these lines mends that of another.
	steps := []struct {
		text string
		want api.Errno
	}{
		{"# " + strings.Repeat("x", api.MaxText), api.ErrText},
		{"\x01", api.ErrByte},
		{"x", api.ErrWord},
		{"lane x y", api.ErrUnknown},
	}
	for i, first := range steps {
		for _, second := range steps[i+1:] {
			for _, last := range []string{"", "block a 0 0", pair, pair + ";robot d 1", pair + ";block x 0 0", pair + ";block x 0 0;robot d 1"} {
				text := first.text + ";" + second.text + ";" + last
				line := 1
				if first.want == api.ErrText {
					line = 0
				}
				checkRefused(t, text, line, first.want)
				text = last + ";" + second.text + ";" + first.text
				if line > 0 {
					line = strings.Count(text, ";") + 1
				}
				checkRefused(t, text, line, first.want)
			}
		}
	}
	checkRefused(t, "block a 0 0;block b 0 0", 0, api.ErrDepot)
	checkRefused(t, pair+";block x 0 0;robot d 1", 0, api.ErrApart)
	checkRefused(t, pair+";robot d 1;lane a b;block x 0 0", 7, api.ErrTwice)
	checkRefused(t, pair+";robot d 1;robot d 1", 7, api.ErrTaken)
	checkRefused(t, "station s a a 1;station t a a 1", 1, api.ErrUnknown)
}

// P11.2: blocks that do not reach each other, over lanes only.
func TestLoadApart(t *testing.T) {
	const three = "block a 0 0;block b 0 0;block c 0 0;depot d a b 2;"
	for _, c := range []struct {
		lanes string
		most  int // -1: refused
	}{
		{"", -1},
		{"lane a b", -1},
		{"lane a b c", -1},
		{"lane a b a", -1},
		{"lane b c b", -1},
		{"lane a b a c", -1},
		{"lane c a b a", -1},
		{"lane a b c b", -1},
		{"station s b c 1;station t c a 1", -1},
		{"lane a b c;station s c a 1", -1},
		{"lane a b c;depot s c a 1", -1},
		{"lane a b c a", 2},
		{"lane c b a c", 2},
		{"lane a b a c a", 1},
		{"lane a b c b a", 1},
	} {
		text := three + c.lanes
		if c.most < 0 {
			checkRefused(t, text, 0, api.ErrApart)
			continue
		}
		n, got, line, e := loader.Load(lines(text))
		if e != api.OK || line != 0 || got.Cap != c.most || !sameNet(n, network(t, text)) {
			t.Errorf("Load(%q) = %s, %+v, %d, %d, want the cap %d", text, short(n), got, line, e, c.most)
		}
	}
}

// P11.2: as many robots as the cap are loaded, and no more.
func TestLoadFleet(t *testing.T) {
	for blocks := 2; blocks <= api.MaxBlocks; blocks++ {
		walk := make([]int, blocks)
		for i := range walk {
			walk[i] = i
		}
		most := min(blocks-1, 8)
		for count := range api.MaxRobots + 1 {
			text := ring(blocks) + robots(count)
			if count > most {
				checkRefused(t, text, 0, api.ErrFleet)
			} else {
				checkLoad(t, text, network(t, text), capOf(8, most, walk...))
			}
		}
	}
	text := longest(5)
	checkLoad(t, text, network(t, text), capOf(8, 5, 0, 4, 8, 12, 16, 20))
	checkRefused(t, longest(6), 0, api.ErrFleet)
	text = "block a 0 0;depot d a a 4;robot d 1;robot d 2;robot d 4;robot d 3"
	checkLoad(t, text, network(t, text), capOf(4, 4))
	text += ";depot e a a 4;robot e 1;robot e 2;robot e 3;robot e 4;station s a a 4"
	checkLoad(t, text, network(t, text), capOf(8, 8))
}

// P11.3: the example of the chapter, a network in a mixed order, and ones that Load refuses.
func TestSave(t *testing.T) {
	checkSave(t, network(t, pair), "block a 0 0;block b 5 -5;lane a b;lane b a;depot d a b 2;robot d 2;config 4 2 1 8;")
	checkSave(t, network(t, mixed), saved)
	checkSave(t, network(t, saved), saved)
	checkSave(t, network(t, "block z -1 0;depot d z z 1"), "block z -1 0;depot d z z 1;config 4 2 1 8;")
	checkSave(t, network(t, "block a 0 0;block b 0 0;depot d b a 2;robot d 2;robot d 1"), "block a 0 0;block b 0 0;depot d b a 2;robot d 2;robot d 1;config 4 2 1 8;")
	checkSave(t, network(t, pair+";robot d 1;config 1 0 0 1"), "block a 0 0;block b 5 -5;lane a b;lane b a;depot d a b 2;robot d 2;robot d 1;config 1 0 0 1;")
}

// P11.3: Load returns a saved network, or refuses it as it refused the first text.
func TestSaveLoaded(t *testing.T) {
	for _, text := range []string{pair, mixed, ring(2), ring(9) + robots(8), ring(24) + robots(3), "block a 0 0;depot d a a 4;robot d 4"} {
		n := network(t, text)
		s, e := loader.Save(n)
		if e != api.OK {
			t.Errorf("Save(%s) has the error %d", short(n), e)
		}
		c, _ := loader.Fleet(n)
		checkLoad(t, s, n, c)
	}
	for text, want := range map[string]api.Errno{pair + ";robot d 1": api.ErrFleet, pair + ";block x 0 0": api.ErrApart, ring(3) + robots(8): api.ErrFleet} {
		n := network(t, text)
		s, _ := loader.Save(n)
		checkRefused(t, s, 0, want)
		if got := network(t, s); !sameNet(got, n) {
			t.Errorf("Save(%s) = %q, of which the network is %s", short(n), s, short(got))
		}
	}
}

// P11.3: with every limit reached the text is not too long yet, so ErrText never applies.
func TestSaveLongest(t *testing.T) {
	text := longest(api.MaxRobots)
	checkSave(t, network(t, text), text)
	if len(text) != 4194 {
		t.Errorf("the longest text has %d bytes, want 4194", len(text))
	}
}

// P11.1, P11.3: networks that are not valid.
func TestNotValid(t *testing.T) {
	for _, change := range []func(n *api.Net){
		func(n *api.Net) { n.Blocks, n.Next = nil, nil },
		func(n *api.Net) { n.Blocks[1].Name = "a" },
		func(n *api.Net) { n.Blocks[1].Name = "1" },
		func(n *api.Net) { n.Blocks[1].Name = "b\nblock x 0 0" },
		func(n *api.Net) { n.Blocks[0].Y = math.MinInt },
		func(n *api.Net) { n.Next = nil },
		func(n *api.Net) { n.Next = n.Next[:2] },
		func(n *api.Net) { n.Next[0] = []int{0} },
		func(n *api.Net) { n.Next[0] = []int{2, 1} },
		func(n *api.Net) { n.Next[2] = []int{3} },
		func(n *api.Net) { n.Next[2] = []int{-1} },
		func(n *api.Net) { n.Spurs, n.Robots = nil, nil },
		func(n *api.Net) { n.Spurs[0].Depot, n.Spurs[2].Depot, n.Robots = false, false, nil },
		func(n *api.Net) { n.Spurs[1].Name = "" },
		func(n *api.Net) { n.Spurs[1].In = 3 },
		func(n *api.Net) { n.Spurs[1].Out = -1 },
		func(n *api.Net) { n.Spurs[1].Slots = math.MaxInt },
		func(n *api.Net) { n.Spurs[0].Slots, n.Robots = 0, nil },
		func(n *api.Net) { n.Spurs[2].Base++ },
		func(n *api.Net) { n.Robots[0] = 0 },
		func(n *api.Net) { n.Robots[0] = 7 },
		func(n *api.Net) { n.Robots[1] = n.Robots[0] },
		func(n *api.Net) { n.Config = api.Config{} },
		func(n *api.Net) { n.Config.Patience = api.MaxPatience + 1 },
		func(n *api.Net) { n.Blocks, n.Next = make([]api.Block, 1e6), make([][]int, 1e6) },
		func(n *api.Net) { n.Spurs = make([]api.Spur, 1e6) },
		func(n *api.Net) { n.Robots = make([]int, 1e6) },
	} {
		n := network(t, mixed)
		change(&n)
		checkNotValid(t, n)
	}
	checkNotValid(t, api.Net{})
}

// mutualModel finds for all pairs of blocks whether there is a path, with one block more in between each time.
func mutualModel(n api.Net) bool {
	var path [api.MaxBlocks][api.MaxBlocks]bool
	for a, next := range n.Next {
		path[a][a] = true
		for _, b := range next {
			path[a][b] = true
		}
	}
	for between := range n.Blocks {
		for a := range n.Blocks {
			for b := range n.Blocks {
				path[a][b] = path[a][b] || path[a][between] && path[between][b]
			}
		}
	}
	for a := range n.Blocks {
		for b := range n.Blocks {
			if !path[a][b] {
				return false
			}
		}
	}
	return true
}

// walkModel finds the first one of the shortest closed walks: it tries all lengths, and keeps for each length and block the first walk to each other block.
func walkModel(n api.Net) []int {
	count := len(n.Blocks)
	walks := make([][][]int, count)
	for a := range walks {
		walks[a] = make([][]int, count)
		walks[a][a] = []int{a}
	}
	for range count {
		for a := range walks {
			longer := make([][]int, count)
			for b, walk := range walks[a] {
				for _, to := range n.Next[b] {
					if walk != nil && (longer[to] == nil || slices.Compare(walk, longer[to]) < 0) {
						longer[to] = append(slices.Clone(walk), to)
					}
				}
			}
			walks[a] = longer
		}
		for a := range walks {
			if walk := walks[a][a]; walk != nil {
				return walk[:len(walk)-1]
			}
		}
	}
	return nil
}

// fleetModel counts the slots of depots one by one, and takes the girth from walkModel.
func fleetModel(n api.Net) api.Cap {
	walk := walkModel(n)
	c := api.Cap{Girth: len(walk), Cycle: walk}
	for _, s := range n.Spurs {
		for range s.Slots {
			if s.Depot {
				c.Slots++
			}
		}
	}
	c.Cap = c.Slots
	if walk != nil && len(walk) <= c.Slots {
		c.Cap = len(walk) - 1
	}
	return c
}

// randomNet returns a valid network; its lanes, spurs and robots are many or few, and half of the networks contain a circle of all blocks.
func randomNet(random *rand.Rand) api.Net {
	n := api.Net{Config: api.Config{Queue: 1 + random.IntN(api.MaxQueue), Aging: random.IntN(api.MaxAging + 1), Detours: random.IntN(api.MaxDetours + 1), Patience: 1 + random.IntN(api.MaxPatience)}}
	blocks, lanes := 1+random.IntN(api.MaxBlocks), random.IntN(api.MaxOut+1)
	circle := random.IntN(2) == 0
	for i := range blocks {
		next := random.Perm(blocks)[:random.IntN(min(lanes, blocks)+1)]
		if circle {
			next = append(next[:min(len(next), api.MaxOut-1)], (i+1)%blocks)
		}
		next = slices.DeleteFunc(next, func(to int) bool { return to == i })
		slices.Sort(next)
		n.Blocks = append(n.Blocks, api.Block{Name: "b" + strconv.Itoa(i), X: random.IntN(2*api.MaxInt+1) - api.MaxInt, Y: i})
		n.Next = append(n.Next, slices.Compact(next))
	}
	var slots []int
	base, depot := blocks, random.IntN(api.MaxSpurs)
	for i := range depot + 1 + random.IntN(api.MaxSpurs-depot) {
		s := api.Spur{Name: "s" + strconv.Itoa(i), Depot: i == depot || random.IntN(2) == 0, In: random.IntN(blocks), Out: random.IntN(blocks), Slots: 1 + random.IntN(api.MaxSlots), Base: base}
		n.Spurs = append(n.Spurs, s)
		for range s.Slots {
			if s.Depot {
				slots = append(slots, base)
			}
			base++
		}
	}
	random.Shuffle(len(slots), func(i, j int) { slots[i], slots[j] = slots[j], slots[i] })
	n.Robots = slots[:random.IntN(min(len(slots), []int{1, 3, api.MaxRobots}[random.IntN(3)])+1)]
	return n
}

// draft writes the lines of a network in its own order, each name between spaces of its own.
func draft(n api.Net) string {
	var text strings.Builder
	put := func(parts ...any) { text.WriteString("\t" + fmt.Sprintln(parts...) + "\n") }
	c := n.Config
	put("config", c.Queue, c.Aging, c.Detours, c.Patience, "# first")
	for _, b := range n.Blocks {
		put("block", b.Name, b.X, b.Y)
	}
	for _, s := range n.Spurs {
		word := "station"
		if s.Depot {
			word = "depot"
		}
		put(word, s.Name, n.Blocks[s.In].Name, n.Blocks[s.Out].Name, s.Slots)
	}
	for _, cell := range n.Robots {
		for _, s := range n.Spurs {
			if cell >= s.Base && cell < s.Base+s.Slots {
				put("robot", s.Name, cell-s.Base+1)
			}
		}
	}
	for i, next := range slices.Backward(n.Next) {
		for _, to := range slices.Backward(next) {
			put("lane", n.Blocks[i].Name, n.Blocks[to].Name)
		}
	}
	return text.String()
}

// P11.1, P11.2, P11.3: networks of all kinds against models of the definitions.
func TestAgainstModel(t *testing.T) {
	random := rand.New(rand.NewPCG(11, 1))
	seen := map[api.Errno]int{}
	for range 1500 {
		n := randomNet(random)
		c := fleetModel(n)
		checkFleet(t, n, c)
		want := api.OK
		if !mutualModel(n) {
			want = api.ErrApart
		} else if len(n.Robots) > c.Cap {
			want = api.ErrFleet
		}
		seen[want]++
		s, e := loader.Save(n)
		if e != api.OK {
			t.Errorf("Save(%s) has the error %d", short(n), e)
		}
		for _, text := range []string{draft(n), s} {
			if want == api.OK {
				checkLoad(t, text, n, c)
			} else {
				checkRefused(t, text, 0, want)
			}
		}
		if got := network(t, s); !sameNet(got, n) {
			t.Errorf("Save(%s) = %q, of which the network is %s", short(n), s, short(got))
		}
	}
	for _, e := range []api.Errno{api.OK, api.ErrApart, api.ErrFleet} {
		if seen[e] < 100 {
			t.Errorf("only %d networks have the result %d", seen[e], e)
		}
	}
}

// stepsModel returns the first error of the steps before the network is judged, or OK.
func stepsModel(text string) (api.Net, int, api.Errno) {
	l, line, e := fields.Lines(text)
	if e != api.OK {
		return api.Net{}, line, e
	}
	d, line, e := layout.Parse(l)
	if e != api.OK {
		return api.Net{}, line, e
	}
	return netmap.Build(d)
}

// P11.2: random lists of lines, right and wrong ones, against the steps one by one.
func TestLoadLines(t *testing.T) {
	pool := []string{
		"block a 0 0", "block b 1 0", "block c 0 1", "lane a b a", "lane b c", "lane c a", "depot d a b 2", "depot e b c 1", "station s c c 1",
		"robot d 1", "robot d 2", "robot e 1", "config 1 0 0 1", "", "#",
	}
	wrong := []string{"lane a b x", "lane a a", "depot d a a 5", "robot s 1", "config 0 0 0 0", "block 1 1 1", "block c 1 x", "lane", "lanes", "\r", "abcdefghijklm"}
	random := rand.New(rand.NewPCG(11, 2))
	seen := map[api.Errno]int{}
	for range 20000 {
		list := slices.Clone(pool)
		random.Shuffle(len(list), func(i, j int) { list[i], list[j] = list[j], list[i] })
		list = list[:random.IntN(len(list)+1)]
		if random.IntN(2) == 0 {
			// In the order of the words far more lists have a network.
			slices.SortFunc(list, func(a, b string) int { return slices.Index(pool, a) - slices.Index(pool, b) })
		}
		for range random.IntN(3) - 1 {
			list = slices.Insert(list, random.IntN(len(list)+1), wrong[random.IntN(len(wrong))])
		}
		text := strings.Join(list, "\n")
		n, line, e := stepsModel(text)
		if e == api.OK && !mutualModel(n) {
			e = api.ErrApart
		}
		if e == api.OK && len(n.Robots) > fleetModel(n).Cap {
			e = api.ErrFleet
		}
		seen[e]++
		if e == api.OK {
			checkLoad(t, text, n, fleetModel(n))
		} else {
			checkRefused(t, text, line, e)
		}
	}
	for _, e := range []api.Errno{api.OK, api.ErrByte, api.ErrLong, api.ErrWord, api.ErrFields, api.ErrName, api.ErrNumber, api.ErrUnknown, api.ErrLoop, api.ErrSlots, api.ErrBlocks, api.ErrDepot, api.ErrApart, api.ErrFleet, api.ErrRange} {
		if seen[e] < 20 {
			t.Errorf("only %d texts have the result %d", seen[e], e)
		}
	}
}

// The chapter's consequence: the cap of a network that is loaded is at least 1.
func TestCapAtLeastOne(t *testing.T) {
	random := rand.New(rand.NewPCG(11, 3))
	for range 500 {
		text := draft(randomNet(random))
		if _, c, _, e := loader.Load(text); e == api.OK && c.Cap < 1 {
			t.Errorf("Load(%.400q) has the cap %d", text, c.Cap)
		}
	}
}

// R1, P11.2: every byte, alone in a line, in a comment, and in texts as long as may be and longer.
func TestLoadEveryByte(t *testing.T) {
	n, c := network(t, pair), capOf(2, 1, 0, 1)
	for b := range 256 {
		one := string([]byte{byte(b)})
		checkLoad(t, pair+";#"+one, n, c)
		switch {
		case b == ' ' || b == '\t' || b == '\n' || b == '#' || b == ';':
			checkLoad(t, pair+"\n"+one, n, c)
			checkRefused(t, strings.Repeat(one, api.MaxText), 0, api.ErrBlocks)
		case b > ' ' && b < 127:
			checkRefused(t, pair+"\n"+one, 6, api.ErrWord)
			checkRefused(t, strings.Repeat(one, api.MaxText), 1, api.ErrLong)
		default:
			checkRefused(t, pair+"\n"+one, 6, api.ErrByte)
			checkRefused(t, strings.Repeat(one, api.MaxText), 1, api.ErrByte)
		}
		checkRefused(t, strings.Repeat(one, api.MaxText+1), 0, api.ErrText)
		checkRefused(t, strings.Repeat(one, 1e5), 0, api.ErrText)
	}
}

// R3: nil and empty lists of a network are the same.
func TestEmptyLists(t *testing.T) {
	n := network(t, "block a 0 0;depot d a a 1")
	for _, next := range [][]int{nil, {}} {
		for _, robots := range [][]int{nil, {}} {
			n.Next[0], n.Robots = next, robots
			checkFleet(t, n, capOf(1, 1))
			checkSave(t, n, "block a 0 0;depot d a a 1;config 4 2 1 8;")
		}
	}
}

// within reports whether two strings share memory.
func within(s, whole string) bool {
	at, first := uintptr(unsafe.Pointer(unsafe.StringData(s))), uintptr(unsafe.Pointer(unsafe.StringData(whole)))
	return at >= first && at < first+uintptr(len(whole))
}

// R2: the results of Load share no memory with the text, with each other, or with those of another call.
func TestLoadNewMemory(t *testing.T) {
	text := lines(mixed)
	n, c, _, _ := loader.Load(text)
	for _, b := range n.Blocks {
		if within(b.Name, text) {
			t.Errorf("the name of block %q is part of the text", b.Name)
		}
	}
	for _, s := range n.Spurs {
		if within(s.Name, text) {
			t.Errorf("the name of spur %q is part of the text", s.Name)
		}
	}
	for _, next := range n.Next {
		_ = append(next, 7, 7, 7, 7)
	}
	_, _ = append(n.Robots, 7, 7, 7), append(c.Cycle, 7, 7, 7)
	if want := network(t, mixed); !sameNet(n, want) || !sameCap(c, capOf(6, 2, 0, 2, 1)) {
		t.Errorf("after appending to its lists the result is %+v, %+v", n, c)
	}
	clear(n.Blocks)
	for _, next := range n.Next {
		clear(next)
	}
	clear(n.Spurs)
	clear(n.Robots)
	if want := capOf(6, 2, 0, 2, 1); !sameCap(c, want) {
		t.Errorf("after changes of the network the cap is %+v, want %+v", c, want)
	}
	clear(c.Cycle)
	checkLoad(t, text, network(t, mixed), capOf(6, 2, 0, 2, 1))
}

// R2: the walk of Fleet shares no memory with the network; arguments are left as they were, also behind their ends. R6: a second call has the same result.
func TestArgumentsKept(t *testing.T) {
	n, want := network(t, mixed), network(t, mixed)
	lanes, cells := []int{2, 99, 99}, []int{3, 9, 99, 99}
	n.Next[0], n.Robots = lanes[:1], cells[:2]
	for range 2 {
		checkFleet(t, n, capOf(6, 2, 0, 2, 1))
		checkSave(t, n, saved)
		c, _ := loader.Fleet(n)
		clear(c.Cycle)
		_ = append(c.Cycle, 7, 7, 7)
	}
	if !sameNet(n, want) || !reflect.DeepEqual(lanes, []int{2, 99, 99}) || !reflect.DeepEqual(cells, []int{3, 9, 99, 99}) {
		t.Errorf("the argument was changed to %+v, %v, %v", n, lanes, cells)
	}
}
