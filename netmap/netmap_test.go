package netmap_test

import (
	"fmt"
	"math"
	"reflect"
	"slices"
	"strconv"
	"strings"
	"testing"
	"unsafe"

	"blockway/api"
	"blockway/fields"
	"blockway/layout"
	"blockway/netmap"
)

// decls returns the declarations of a text; semicolons end lines.
func decls(t *testing.T, text string) []api.Decl {
	t.Helper()
	l, _, e := fields.Lines(strings.ReplaceAll(text, ";", "\n"))
	if e != api.OK {
		t.Fatalf("Lines(%q) has the error %d", text, e)
	}
	d, _, e := layout.Parse(l)
	if e != api.OK {
		t.Fatalf("Parse of %q has the error %d", text, e)
	}
	return d
}

// sameDecls treats nil and empty lists alike.
func sameDecls(a, b []api.Decl) bool {
	return slices.EqualFunc(a, b, func(x, y api.Decl) bool {
		return x.Word == y.Word && x.Line == y.Line && slices.Equal(x.Names, y.Names) && slices.Equal(x.Nums, y.Nums)
	})
}

// sameNet treats nil and empty lists alike.
func sameNet(a, b api.Net) bool {
	return slices.Equal(a.Blocks, b.Blocks) && slices.EqualFunc(a.Next, b.Next, slices.Equal) && slices.Equal(a.Spurs, b.Spurs) && slices.Equal(a.Robots, b.Robots) && a.Config == b.Config
}

// cloneNet returns a network that shares no memory with n.
func cloneNet(n api.Net) api.Net {
	c := api.Net{Blocks: slices.Clone(n.Blocks), Spurs: slices.Clone(n.Spurs), Robots: slices.Clone(n.Robots), Config: n.Config}
	for _, next := range n.Next {
		c.Next = append(c.Next, slices.Clone(next))
	}
	return c
}

// short keeps the messages of tests with long arguments readable.
func short(x any) string {
	return fmt.Sprintf("%.400s", fmt.Sprintf("%+v", x))
}

func checkBuild(t *testing.T, d []api.Decl, want api.Net) {
	t.Helper()
	n, line, e := netmap.Build(d)
	if e != api.OK || line != 0 || !sameNet(n, want) {
		t.Errorf("Build(%s) = %s, %d, %d, want %s, 0, 0", short(d), short(n), line, e, short(want))
	}
}

func checkBuildError(t *testing.T, d []api.Decl, line int, want api.Errno) {
	t.Helper()
	n, got, e := netmap.Build(d)
	if e != want || got != line || !sameNet(n, api.Net{}) {
		t.Errorf("Build(%s) = %s, %d, %d, want none, %d, %d", short(d), short(n), got, e, line, want)
	}
}

// mustBuild returns the network of a text without errors.
func mustBuild(t *testing.T, text string) api.Net {
	t.Helper()
	n, line, e := netmap.Build(decls(t, text))
	if e != api.OK || line != 0 {
		t.Fatalf("Build of %q has the error %d in line %d", text, e, line)
	}
	return n
}

func checkDescribe(t *testing.T, n api.Net, want []api.Decl) {
	t.Helper()
	if !netmap.Valid(n) {
		t.Errorf("Valid(%s) is false", short(n))
	}
	d, e := netmap.Describe(n)
	if e != api.OK || !sameDecls(d, want) {
		t.Errorf("Describe(%s) = %s, %d, want %s, 0", short(n), short(d), e, short(want))
	}
}

func checkNotValid(t *testing.T, n api.Net) {
	t.Helper()
	if netmap.Valid(n) {
		t.Errorf("Valid(%s) is true", short(n))
	}
	d, e := netmap.Describe(n)
	if e != api.ErrInvalid || len(d) != 0 {
		t.Errorf("Describe(%s) = %s, %d, want none, %d", short(n), short(d), e, api.ErrInvalid)
	}
}

const example = "block a 0 0;block b 5 -5;lane a b a;depot d a b 2;robot d 2"

func exampleNet() api.Net {
	return api.Net{
		Blocks: []api.Block{{Name: "a", X: 0, Y: 0}, {Name: "b", X: 5, Y: -5}},
		Next:   [][]int{{1}, {0}},
		Spurs:  []api.Spur{{Name: "d", Depot: true, In: 0, Out: 1, Slots: 2, Base: 2}},
		Robots: []int{3},
		Config: api.Config{Queue: 4, Aging: 2, Detours: 1, Patience: 8},
	}
}

// mixed declares everything in a mixed order: cells are numbered all the same.
const mixed = "block a 0 0;depot d a a 4;config 8 4 3 16;robot d 1;block b -9999 9999;station s b a 1;lane b a;block c 1 2;lane a c b;lane a b;depot e c b 2;robot e 2;robot d 4;robot e 1"

func mixedNet() api.Net {
	return api.Net{
		Blocks: []api.Block{{Name: "a"}, {Name: "b", X: -9999, Y: 9999}, {Name: "c", X: 1, Y: 2}},
		Next:   [][]int{{1, 2}, {0}, {1}},
		Spurs: []api.Spur{
			{Name: "d", Depot: true, In: 0, Out: 0, Slots: 4, Base: 3},
			{Name: "s", Depot: false, In: 1, Out: 0, Slots: 1, Base: 7},
			{Name: "e", Depot: true, In: 2, Out: 1, Slots: 2, Base: 8},
		},
		Robots: []int{3, 9, 6, 8},
		Config: api.Config{Queue: 8, Aging: 4, Detours: 3, Patience: 16},
	}
}

// repeated returns n declarations, each with another number in place of ?.
func repeated(n int, decl string) string {
	var b strings.Builder
	for i := range n {
		b.WriteString(";" + strings.ReplaceAll(decl, "?", strconv.Itoa(i)))
	}
	return b.String()
}

// full is a layout in which every limit is reached.
func full() string {
	text := repeated(24, "block b? ? 9")
	for i := range 24 {
		for k := 4; k >= 1; k-- {
			text += ";lane b" + strconv.Itoa(i) + " b" + strconv.Itoa((i+5*k)%24)
		}
	}
	text += repeated(3, "station s? b23 b? 4") + repeated(3, "depot d? b? b23 4")
	for i := range 8 {
		text += ";robot d" + strconv.Itoa(i/4) + " " + strconv.Itoa(4-i%4)
	}
	return text + ";config 8 4 3 16"
}

// P3.1: the example of the chapter, and with its numbers elsewhere.
func TestBuild(t *testing.T) {
	n := exampleNet()
	checkBuild(t, decls(t, example), n)
	checkBuild(t, decls(t, mixed), mixedNet())
	n.Robots = nil
	checkBuild(t, decls(t, "block a 0 0;block b 5 -5;lane a b a;depot d a b 2"), n)
	checkBuild(t, decls(t, "block a 0 0;depot d a a 1"), api.Net{
		Blocks: []api.Block{{Name: "a"}},
		Next:   [][]int{nil},
		Spurs:  []api.Spur{{Name: "d", Depot: true, Slots: 1, Base: 1}},
		Config: api.Config{Queue: 4, Aging: 2, Detours: 1, Patience: 8},
	})
}

// P3.1: Next is ascending, whatever the order of the lanes, and lanes of one line follow each other.
func TestBuildNext(t *testing.T) {
	const blocks = "block a 0 0;block b 0 0;block c 0 0;block d 0 0;block e 0 0;depot z a a 1"
	for _, c := range []struct {
		lanes string
		want  [][]int
	}{
		{"", [][]int{{}, {}, {}, {}, {}}},
		{";lane a e;lane a c;lane a d;lane a b", [][]int{{1, 2, 3, 4}, {}, {}, {}, {}}},
		{";lane e a;lane e d;lane e b;lane e c", [][]int{{}, {}, {}, {}, {0, 1, 2, 3}}},
		{";lane c e;lane c a;lane c b;lane c d", [][]int{{}, {}, {0, 1, 3, 4}, {}, {}}},
		{";lane a b c d e a", [][]int{{1}, {2}, {3}, {4}, {0}}},
		{";lane a e a d a c a b a", [][]int{{1, 2, 3, 4}, {0}, {0}, {0}, {0}}},
		{";lane e d c b a", [][]int{{}, {0}, {1}, {2}, {3}}},
	} {
		if n := mustBuild(t, blocks+c.lanes); !slices.EqualFunc(n.Next, c.want, slices.Equal) {
			t.Errorf("the lanes %q lead to %v, want %v", c.lanes, n.Next, c.want)
		}
	}
}

// P3.1: numbers of blocks, spurs and cells at the limits.
func TestBuildFull(t *testing.T) {
	n := mustBuild(t, full())
	want := api.Net{Robots: []int{39, 38, 37, 36, 43, 42, 41, 40}, Config: api.Config{Queue: 8, Aging: 4, Detours: 3, Patience: 16}}
	for i := range 24 {
		want.Blocks = append(want.Blocks, api.Block{Name: "b" + strconv.Itoa(i), X: i, Y: 9})
		next := []int{(i + 5) % 24, (i + 10) % 24, (i + 15) % 24, (i + 20) % 24}
		slices.Sort(next)
		want.Next = append(want.Next, next)
	}
	for i := range 3 {
		want.Spurs = append(want.Spurs, api.Spur{Name: "s" + strconv.Itoa(i), In: 23, Out: i, Slots: 4, Base: 24 + 4*i})
	}
	for i := range 3 {
		want.Spurs = append(want.Spurs, api.Spur{Name: "d" + strconv.Itoa(i), Depot: true, In: i, Out: 23, Slots: 4, Base: 36 + 4*i})
	}
	if !sameNet(n, want) {
		t.Errorf("the network is %+v, want %+v", n, want)
	}
	if !netmap.Valid(n) {
		t.Error("the network is not valid")
	}
}

// P3.1: config, with all its numbers, and without it.
func TestBuildConfig(t *testing.T) {
	for queue := -1; queue <= 9; queue++ {
		for aging := -1; aging <= 5; aging++ {
			for detours := -1; detours <= 4; detours++ {
				for patience := -1; patience <= 17; patience++ {
					c := api.Config{Queue: queue, Aging: aging, Detours: detours, Patience: patience}
					checkConfig(t, c, queue >= 1 && queue <= 8 && aging >= 0 && aging <= 4 && detours >= 0 && detours <= 3 && patience >= 1 && patience <= 16)
				}
			}
		}
	}
	for _, x := range []int{9999, -9999} {
		for i := range 4 {
			nums := []int{1, 1, 1, 1}
			nums[i] = x
			checkConfig(t, api.Config{Queue: nums[0], Aging: nums[1], Detours: nums[2], Patience: nums[3]}, false)
		}
	}
}

// checkConfig checks Build, Valid and Describe with a configuration, at the beginning and at the end.
func checkConfig(t *testing.T, c api.Config, ok bool) {
	t.Helper()
	line := api.Decl{Word: api.WordConfig, Line: 77, Nums: []int{c.Queue, c.Aging, c.Detours, c.Patience}}
	first := append([]api.Decl{line}, decls(t, example)...)
	last := append(decls(t, example), line)
	n := exampleNet()
	n.Config = c
	if !ok {
		checkBuildError(t, first, 77, api.ErrRange)
		checkBuildError(t, last, 77, api.ErrRange)
		checkNotValid(t, n)
		return
	}
	checkBuild(t, first, n)
	checkBuild(t, last, n)
	last[len(last)-1].Line = 7
	checkDescribe(t, n, append(decls(t, "block a 0 0;block b 5 -5;lane a b;lane b a;depot d a b 2;robot d 2"), last[len(last)-1]))
}

// P3.1: each error of each declaration, also where errors that come later in its list apply too.
func TestBuildErrors(t *testing.T) {
	const twoDepots = "block a 0 0;depot d a a 4;depot e a a 4;depot f a a 2"
	const eightRobots = twoDepots + ";robot d 1;robot d 2;robot d 3;robot d 4;robot e 1;robot e 2;robot e 3;robot e 4"
	blocks := "block a 0 0;depot d a a 1" + repeated(23, "block b? 0 0")
	const spurs = "block a 0 0;block b 0 0;depot d a b 1;station s a b 1;station t a b 1;station u a b 1;station v a b 1;station w a b 1"
	const lanes = "block a 0 0;block b 0 0;block c 0 0;block d 0 0;block e 0 0;block f 0 0;depot z a a 1;lane a b;lane a c;lane a d;lane a e"
	for _, c := range []struct {
		before, last string
		want         api.Errno
	}{
		{example, "block a 1 1", api.ErrDuplicate},
		{example, "block d 1 1", api.ErrDuplicate},
		{"block a 0 0;station s a a 1", "block s 1 1", api.ErrDuplicate},
		{blocks, "block a 0 0", api.ErrDuplicate},
		{blocks, "block d 0 0", api.ErrDuplicate},
		{blocks, "block c 0 0", api.ErrMany},
		{example, "lane a x", api.ErrUnknown},
		{example, "lane x a", api.ErrUnknown},
		{example, "lane x y", api.ErrUnknown},
		{example, "lane x x", api.ErrUnknown},
		{example, "lane d d", api.ErrUnknown},
		{example, "lane a d", api.ErrUnknown},
		{example, "lane d a", api.ErrUnknown},
		{"block a 0 0", "lane a b", api.ErrUnknown},
		{example, "lane a a", api.ErrLoop},
		{example, "lane a a x", api.ErrLoop},
		{example, "lane a a b", api.ErrLoop},
		{lanes, "lane a a", api.ErrLoop},
		{example, "lane a b", api.ErrTwice},
		{example, "lane b a", api.ErrTwice},
		{example, "lane a b b", api.ErrTwice},
		{example + ";block c 0 0", "lane a c a c", api.ErrTwice},
		{example + ";block c 0 0", "lane c a c a c c", api.ErrTwice},
		{example + ";block c 0 0", "lane a c x", api.ErrUnknown},
		{example + ";block c 0 0", "lane a c c", api.ErrLoop},
		{lanes, "lane a e", api.ErrTwice},
		{lanes, "lane a x", api.ErrUnknown},
		{lanes, "lane a f", api.ErrMany},
		{lanes, "lane b a f", api.ErrMany},
		{lanes, "lane a f f", api.ErrMany},
		{"block a 0 0;block b 0 0;block c 0 0;block d 0 0;block e 0 0;block f 0 0", "lane a b a c a d a e a f", api.ErrMany},
		{example, "station d a a 1", api.ErrDuplicate},
		{example, "station a a a 1", api.ErrDuplicate},
		{example, "depot d x y 9", api.ErrDuplicate},
		{example, "depot b a a 1", api.ErrDuplicate},
		{spurs, "station s x x 9", api.ErrDuplicate},
		{example, "station s x a 9", api.ErrUnknown},
		{example, "station s a x 9", api.ErrUnknown},
		{example, "station s a d 1", api.ErrUnknown},
		{example, "depot e d a 1", api.ErrUnknown},
		{example, "depot s s s 1", api.ErrUnknown},
		{spurs, "station x y a 0", api.ErrUnknown},
		{"block a 0 0", "depot d a b 1", api.ErrUnknown},
		{example, "station s a a 0", api.ErrSlots},
		{example, "station s a a 5", api.ErrSlots},
		{example, "station s a a -1", api.ErrSlots},
		{example, "depot e a a 0", api.ErrSlots},
		{example, "depot e a a 5", api.ErrSlots},
		{example, "depot e a a 9999", api.ErrSlots},
		{spurs, "depot x a a 5", api.ErrSlots},
		{spurs, "depot x a a 4", api.ErrMany},
		{spurs, "station x a a 1", api.ErrMany},
		{example, "robot x 9", api.ErrUnknown},
		{example, "robot a 1", api.ErrUnknown},
		{example + ";station s a a 1", "robot s 1", api.ErrUnknown},
		{example + ";station s a a 1", "robot s 9", api.ErrUnknown},
		{"block a 0 0", "robot d 1", api.ErrUnknown},
		{eightRobots, "robot x 1", api.ErrUnknown},
		{example, "robot d 0", api.ErrSlots},
		{example, "robot d 3", api.ErrSlots},
		{example, "robot d -1", api.ErrSlots},
		{eightRobots, "robot f 3", api.ErrSlots},
		{example, "robot d 2", api.ErrTaken},
		{eightRobots, "robot e 4", api.ErrTaken},
		{eightRobots, "robot f 1", api.ErrMany},
		{example + ";config 4 2 1 8", "config 4 2 1 8", api.ErrTwice},
		{example + ";config 1 0 0 1", "config 0 0 0 0", api.ErrTwice},
	} {
		d := decls(t, c.before+";"+c.last)
		checkBuildError(t, d, d[len(d)-1].Line, c.want)
		// Later lines with errors change nothing.
		later := append(slices.Clone(d), api.Decl{Line: -1}, api.Decl{Word: api.WordConfig, Line: -2, Nums: []int{0, 0, 0, 0}})
		checkBuildError(t, later, d[len(d)-1].Line, c.want)
		if n, line, e := netmap.Build(d[:len(d)-1]); line != 0 {
			t.Errorf("Build(%s) = %s, %d, %d, want no error of a line", short(d[:len(d)-1]), short(n), line, e)
		}
	}
}

// P3.1: declarations that are not valid, before any other error of theirs.
func TestBuildInvalid(t *testing.T) {
	for _, bad := range []api.Decl{
		{},
		{Word: 0, Names: []string{"c"}, Nums: []int{0, 0}},
		{Word: 7, Names: []string{"c"}, Nums: []int{0, 0}},
		{Word: -1},
		{Word: math.MinInt},
		{Word: api.WordBlock},
		{Word: api.WordBlock, Names: []string{"a"}, Nums: []int{0}},
		{Word: api.WordBlock, Names: []string{"a"}, Nums: []int{0, 0, 0}},
		{Word: api.WordBlock, Names: []string{"a", "b"}, Nums: []int{0, 0}},
		{Word: api.WordBlock, Names: []string{"c"}, Nums: []int{0, 10000}},
		{Word: api.WordBlock, Names: []string{"1"}, Nums: []int{0, 0}},
		{Word: api.WordLane},
		{Word: api.WordLane, Names: []string{"a"}},
		{Word: api.WordLane, Names: []string{"a", "a"}, Nums: []int{1}},
		{Word: api.WordLane, Names: []string{"a", "a", "-"}},
		{Word: api.WordStation, Names: []string{"d", "a"}, Nums: []int{1}},
		{Word: api.WordStation, Names: []string{"d", "a", "a"}},
		{Word: api.WordDepot, Names: []string{"d", "a", ""}, Nums: []int{1}},
		{Word: api.WordDepot, Names: []string{"e", "a", "a"}, Nums: []int{10000}},
		{Word: api.WordRobot, Nums: []int{1}},
		{Word: api.WordRobot, Names: []string{"d"}},
		{Word: api.WordRobot, Names: []string{"x"}, Nums: []int{math.MinInt}},
		{Word: api.WordConfig},
		{Word: api.WordConfig, Nums: []int{0, 0, 0}},
		{Word: api.WordConfig, Names: []string{"a"}, Nums: []int{1, 1, 1, 1}},
		{Word: api.WordConfig, Nums: []int{math.MaxInt, 1, 1, 1}},
	} {
		for _, line := range []int{3, 0, -7, math.MinInt, math.MaxInt} {
			bad.Line = line
			checkBuildError(t, append(decls(t, example), bad), line, api.ErrInvalid)
			checkBuildError(t, append(decls(t, example+";config 1 1 1 1"), bad), line, api.ErrInvalid)
			checkBuildError(t, append([]api.Decl{bad}, decls(t, example+";block a 0 0")...), line, api.ErrInvalid)
		}
	}
}

// P3.1: Lines may be any numbers, and the first declaration with an error decides, not the least Line.
func TestBuildLines(t *testing.T) {
	d := decls(t, example)
	for i := range d {
		d[i].Line = -i
	}
	checkBuild(t, d, exampleNet())
	bad := decls(t, example+";lane a a;block a 0 0;robot d 2")
	bad[5].Line, bad[6].Line, bad[7].Line = 9, -4, 1
	checkBuildError(t, bad, 9, api.ErrLoop)
	checkBuildError(t, slices.Delete(slices.Clone(bad), 5, 6), -4, api.ErrDuplicate)
	checkBuildError(t, slices.Delete(slices.Clone(bad), 5, 7), 1, api.ErrTaken)
	bad[5].Line = 0
	checkBuildError(t, bad, 0, api.ErrLoop)
}

// P3.1: at the end there is a block and a depot.
func TestBuildEnd(t *testing.T) {
	checkBuildError(t, nil, 0, api.ErrBlocks)
	checkBuildError(t, []api.Decl{}, 0, api.ErrBlocks)
	for _, c := range []struct {
		text string
		line int
		want api.Errno
	}{
		{"config 1 0 0 1", 0, api.ErrBlocks},
		{"block a 0 0", 0, api.ErrDepot},
		{"block a 0 0;station s a a 1", 0, api.ErrDepot},
		{"block a 0 0;block b 0 0;lane a b a;station s a b 4;station t b a 4;config 1 0 0 1", 0, api.ErrDepot},
		{"block a 0 0;block a 0 0", 2, api.ErrDuplicate},
		{"config 0 0 0 1", 1, api.ErrRange},
		{"lane a b;block a 0 0;block b 0 0;depot d a b 1", 1, api.ErrUnknown},
		{"depot d a a 1;block a 0 0", 1, api.ErrUnknown},
		{"block a 0 0;robot d 1;depot d a a 1", 2, api.ErrUnknown},
	} {
		checkBuildError(t, decls(t, c.text), c.line, c.want)
	}
}

// P3.1: names are told apart by every letter, and a word is a name like any other.
func TestBuildNames(t *testing.T) {
	n := mustBuild(t, "block A 1 1;block a 2 2;block a-b 3 3;block a_b 4 4;block abcdefghijkl 5 5;block abcdefghijkm 6 6;block block 7 7;block lane 8 8;lane A a A;lane abcdefghijkl a_b;lane block lane a-b;depot robot lane block 1;station D a A 1;depot d A a 1;robot robot 1;robot d 1")
	want := [][]int{{1}, {0}, {}, {}, {3}, {}, {7}, {2}}
	if !slices.EqualFunc(n.Next, want, slices.Equal) || !slices.Equal(n.Robots, []int{8, 10}) {
		t.Errorf("the network is %+v", n)
	}
	if s := (api.Spur{Name: "robot", Depot: true, In: 7, Out: 6, Slots: 1, Base: 8}); n.Spurs[0] != s {
		t.Errorf("the first spur is %+v, want %+v", n.Spurs[0], s)
	}
}

// pool has declarations of which many short lists have errors of all kinds.
func pool() []string {
	return []string{
		"block a 0 0", "block b 1 2", "block d 3 4", "lane a b", "lane b a b", "lane a a", "depot d a b 1", "depot d b a 2", "station b a a 1", "station s a d 3",
		"depot e a a 0", "robot d 1", "robot d 2", "robot s 1", "config 1 0 0 1", "config 0 0 0 1",
	}
}

// model is the chapter's list of errors, without tables: it goes through the declarations before again and again.
type model struct{ before []api.Decl }

func (m model) count(words ...int) int {
	n := 0
	for _, d := range m.before {
		if slices.Contains(words, d.Word) {
			n++
		}
	}
	return n
}

func (m model) find(name string, words ...int) (api.Decl, bool) {
	for _, d := range m.before {
		if slices.Contains(words, d.Word) && d.Names[0] == name {
			return d, true
		}
	}
	return api.Decl{}, false
}

func (m model) isBlock(name string) bool {
	_, ok := m.find(name, api.WordBlock)
	return ok
}

func (m model) isName(name string) bool {
	_, ok := m.find(name, api.WordBlock, api.WordStation, api.WordDepot)
	return ok
}

// first returns the first error that applies.
func first(l ...any) api.Errno {
	for i := 0; i < len(l); i += 2 {
		if l[i].(bool) {
			return l[i+1].(api.Errno)
		}
	}
	return api.OK
}

func (m model) lane(names []string) api.Errno {
	for i := 1; i < len(names); i++ {
		twice, out := false, 0
		all := append(slices.Clone(m.before), api.Decl{Word: api.WordLane, Names: names[:i]})
		for _, d := range all {
			for k := 1; d.Word == api.WordLane && k < len(d.Names); k++ {
				if d.Names[k-1] == names[i-1] {
					out++
					twice = twice || d.Names[k] == names[i]
				}
			}
		}
		e := first(!m.isBlock(names[i-1]) || !m.isBlock(names[i]), api.ErrUnknown, names[i-1] == names[i], api.ErrLoop, twice, api.ErrTwice, out >= 4, api.ErrMany)
		if e != api.OK {
			return e
		}
	}
	return api.OK
}

func (m model) errorOf(d api.Decl) api.Errno {
	switch d.Word {
	case api.WordBlock:
		return first(m.isName(d.Names[0]), api.ErrDuplicate, m.count(api.WordBlock) >= 24, api.ErrMany)
	case api.WordLane:
		return m.lane(d.Names)
	case api.WordStation, api.WordDepot:
		return first(m.isName(d.Names[0]), api.ErrDuplicate, !m.isBlock(d.Names[1]) || !m.isBlock(d.Names[2]), api.ErrUnknown,
			d.Nums[0] < 1 || d.Nums[0] > 4, api.ErrSlots, m.count(api.WordStation, api.WordDepot) >= 6, api.ErrMany)
	case api.WordRobot:
		depot, ok := m.find(d.Names[0], api.WordDepot)
		taken := slices.ContainsFunc(m.before, func(x api.Decl) bool {
			return x.Word == api.WordRobot && x.Names[0] == d.Names[0] && x.Nums[0] == d.Nums[0]
		})
		return first(!ok, api.ErrUnknown, ok && (d.Nums[0] < 1 || d.Nums[0] > depot.Nums[0]), api.ErrSlots, taken, api.ErrTaken, m.count(api.WordRobot) >= 8, api.ErrMany)
	}
	return first(m.count(api.WordConfig) > 0, api.ErrTwice, d.Nums[0] < 1, api.ErrRange)
}

func modelError(d []api.Decl) (int, api.Errno) {
	for i := range d {
		if e := (model{d[:i]}).errorOf(d[i]); e != api.OK {
			return d[i].Line, e
		}
	}
	m := model{d}
	return 0, first(m.count(api.WordBlock) == 0, api.ErrBlocks, m.count(api.WordDepot) == 0, api.ErrDepot)
}

// allLists calls f with all lists of n declarations of the pool, with the Lines 1, 2, 3 and so on.
func allLists(t *testing.T, n int, f func(d []api.Decl)) {
	t.Helper()
	from := decls(t, strings.Join(pool(), ";"))
	list := make([]api.Decl, n)
	var extend func(at int)
	extend = func(at int) {
		if at == n {
			f(list)
			return
		}
		for _, d := range from {
			d.Line = at + 1
			list[at] = d
			extend(at + 1)
		}
	}
	extend(0)
}

// P3.1, P3.2: Build agrees with the chapter on all short lists of declarations; what it returns is Valid, and Build takes its description back to it.
func TestAgainstModel(t *testing.T) {
	for n := range 5 {
		allLists(t, n, func(d []api.Decl) {
			checkAgainstModel(t, d)
			checkAgainstModel(t, append(decls(t, "block a 0 0;block b 0 0;depot d a b 1"), d...))
		})
	}
}

func checkAgainstModel(t *testing.T, d []api.Decl) {
	t.Helper()
	line, want := modelError(d)
	if want != api.OK {
		checkBuildError(t, d, line, want)
		return
	}
	n, line, e := netmap.Build(d)
	if e != api.OK || line != 0 {
		t.Errorf("Build(%s) has the error %d in line %d", short(d), e, line)
		return
	}
	checkThere(t, n)
}

// checkThere checks that a network is valid and is built of its description.
func checkThere(t *testing.T, n api.Net) {
	t.Helper()
	d, e := netmap.Describe(n)
	if e != api.OK || !netmap.Valid(n) {
		t.Errorf("Describe(%s) has the error %d", short(n), e)
	}
	checkBuild(t, d, n)
	for i, x := range d {
		if x.Line != i+1 || !layout.Valid(x) {
			t.Errorf("Describe(%s) has the declaration %d: %+v", short(n), i, x)
		}
	}
}

// P3.2: the declarations of networks.
func TestDescribe(t *testing.T) {
	checkDescribe(t, exampleNet(), decls(t, "block a 0 0;block b 5 -5;lane a b;lane b a;depot d a b 2;robot d 2;config 4 2 1 8"))
	checkDescribe(t, mixedNet(), decls(t, "block a 0 0;block b -9999 9999;block c 1 2;lane a b;lane a c;lane b a;lane c b;depot d a a 4;station s b a 1;depot e c b 2;robot d 1;robot e 2;robot d 4;robot e 1;config 8 4 3 16"))
	checkDescribe(t, mustBuild(t, "block z 9 9;station s z z 2;depot d z z 1"), decls(t, "block z 9 9;station s z z 2;depot d z z 1;config 4 2 1 8"))
	n := mustBuild(t, full())
	checkThere(t, n)
	d, _ := netmap.Describe(n)
	if want := 24 + 4*24 + 6 + 8 + 1; len(d) != want {
		t.Errorf("the description of the full network has %d declarations, want %d", len(d), want)
	}
}

// P3.2: nil and empty lists are the same.
func TestDescribeEmptyLists(t *testing.T) {
	n := mustBuild(t, "block a 0 0;depot d a a 1")
	want := decls(t, "block a 0 0;depot d a a 1;config 4 2 1 8")
	for _, next := range [][]int{nil, {}} {
		for _, robots := range [][]int{nil, {}} {
			n.Next, n.Robots = [][]int{next}, robots
			checkDescribe(t, n, want)
		}
	}
	checkNotValid(t, api.Net{})
	checkNotValid(t, api.Net{Blocks: []api.Block{}, Next: [][]int{}, Spurs: []api.Spur{}, Robots: []int{}, Config: n.Config})
}

// P3.2: networks that Build cannot return, each by one change.
func TestNotValid(t *testing.T) {
	for _, change := range []func(n *api.Net){
		func(n *api.Net) { n.Blocks, n.Next = nil, nil },
		func(n *api.Net) { n.Blocks, n.Next, n.Spurs, n.Robots = nil, nil, nil, nil },
		func(n *api.Net) { n.Spurs, n.Robots = nil, nil },
		func(n *api.Net) { n.Next = nil },
		func(n *api.Net) { n.Next = n.Next[:2] },
		func(n *api.Net) { n.Next = append(n.Next, nil) },
		func(n *api.Net) { n.Blocks = n.Blocks[:2] },
		func(n *api.Net) { n.Blocks[1].Name = "a" },
		func(n *api.Net) { n.Blocks[2].Name = "a" },
		func(n *api.Net) { n.Blocks[1].Name = "s" },
		func(n *api.Net) { n.Spurs[1].Name = "d" },
		func(n *api.Net) { n.Spurs[2].Name = "d" },
		func(n *api.Net) { n.Spurs[2].Name = "c" },
		func(n *api.Net) { n.Next[0] = []int{2, 1} },
		func(n *api.Net) { n.Next[0] = []int{1, 1} },
		func(n *api.Net) { n.Next[0] = []int{1, 2, 2} },
		func(n *api.Net) { n.Next[1] = []int{0, 1} },
		func(n *api.Net) { n.Spurs[0].Depot = false },
		func(n *api.Net) { n.Spurs[2].Depot = false },
		func(n *api.Net) { n.Spurs[0].Depot, n.Spurs[2].Depot, n.Robots = false, false, nil },
		func(n *api.Net) { n.Spurs = append(n.Spurs, api.Spur{Name: "x", Slots: 1, Base: 11}) },
		func(n *api.Net) { n.Spurs[0], n.Spurs[1] = n.Spurs[1], n.Spurs[0] },
		func(n *api.Net) { n.Spurs[2].Slots, n.Robots = 0, nil },
		func(n *api.Net) { n.Spurs[2].Slots, n.Robots = -1, nil },
		func(n *api.Net) { n.Spurs[2].Slots, n.Robots = 5, nil },
		func(n *api.Net) { n.Robots = append(n.Robots, 3) },
		func(n *api.Net) { n.Robots = append(n.Robots, 7) },
		func(n *api.Net) { n.Robots = append(n.Robots, 0) },
		func(n *api.Net) { n.Robots = append(n.Robots, 10) },
		func(n *api.Net) { n.Config = api.Config{} },
	} {
		n := mixedNet()
		change(&n)
		checkNotValid(t, n)
	}
	for _, name := range []string{"", "1", "-", "_a", "a b", "a#", "a\x00", "é", "abcdefghijklm", strings.Repeat("a", 10000)} {
		n := mixedNet()
		n.Blocks[1].Name = name
		checkNotValid(t, n)
		n = mixedNet()
		n.Spurs[1].Name = name
		checkNotValid(t, n)
	}
}

// P3.2: networks at the limits are valid, and beyond them they are not.
func TestValidLimits(t *testing.T) {
	n := mustBuild(t, full())
	for _, change := range []func(n *api.Net){
		func(n *api.Net) {
			n.Blocks, n.Next = append(n.Blocks, api.Block{Name: "x"}), append(n.Next, nil)
			for i := range n.Spurs {
				n.Spurs[i].Base++
			}
			for i := range n.Robots {
				n.Robots[i]++
			}
		},
		func(n *api.Net) { n.Next[0] = []int{1, 2, 3, 4, 5} },
		func(n *api.Net) { n.Spurs = append(n.Spurs, api.Spur{Name: "x", Slots: 1, Base: 48}) },
		func(n *api.Net) { n.Spurs = append(n.Spurs, api.Spur{Name: "x", Depot: true, Slots: 1, Base: 48}) },
		func(n *api.Net) { n.Robots = append(n.Robots, 44) },
		func(n *api.Net) { n.Blocks, n.Next = make([]api.Block, 1e6), make([][]int, 1e6) },
		func(n *api.Net) { n.Next[23] = make([]int, 1e6) },
		func(n *api.Net) { n.Spurs = make([]api.Spur, 1e6) },
		func(n *api.Net) { n.Robots = make([]int, 1e6) },
		func(n *api.Net) { n.Spurs[5].Slots = 5 },
	} {
		c := cloneNet(n)
		change(&c)
		checkNotValid(t, c)
	}
	checkThere(t, n)
}

// draft returns declarations of which Build would make n, as long as its indices exist.
func draft(n api.Net) ([]api.Decl, bool) {
	var l []api.Decl
	for _, b := range n.Blocks {
		l = append(l, api.Decl{Word: api.WordBlock, Names: []string{b.Name}, Nums: []int{b.X, b.Y}})
	}
	name := func(i int) string {
		if i < 0 || i >= len(n.Blocks) {
			return "none"
		}
		return n.Blocks[i].Name
	}
	for i, next := range n.Next {
		for _, to := range next {
			l = append(l, api.Decl{Word: api.WordLane, Names: []string{name(i), name(to)}})
		}
	}
	for _, s := range n.Spurs {
		d := api.Decl{Word: api.WordStation, Names: []string{s.Name, name(s.In), name(s.Out)}, Nums: []int{s.Slots}}
		if s.Depot {
			d.Word = api.WordDepot
		}
		l = append(l, d)
	}
	for _, cell := range n.Robots {
		at, count := cell-len(n.Blocks), len(l)
		for _, s := range n.Spurs {
			if at >= 0 && at < s.Slots {
				l = append(l, api.Decl{Word: api.WordRobot, Names: []string{s.Name}, Nums: []int{at + 1}})
			}
			at -= s.Slots
		}
		if len(l) != count+1 {
			return nil, false
		}
	}
	c := n.Config
	return append(l, api.Decl{Word: api.WordConfig, Nums: []int{c.Queue, c.Aging, c.Detours, c.Patience}}), true
}

// checkValid checks Valid against its definition: Build can return n.
func checkValid(t *testing.T, n api.Net) {
	t.Helper()
	d, ok := draft(n)
	if ok {
		built, _, e := netmap.Build(d)
		ok = e == api.OK && sameNet(built, n)
	}
	if ok {
		for i := range d {
			d[i].Line = i + 1
		}
		checkDescribe(t, n, d)
	} else {
		checkNotValid(t, n)
	}
}

// numbers returns the places of all numbers of a network.
func numbers(n *api.Net) []*int {
	l := []*int{&n.Config.Queue, &n.Config.Aging, &n.Config.Detours, &n.Config.Patience}
	for i := range n.Blocks {
		l = append(l, &n.Blocks[i].X, &n.Blocks[i].Y)
	}
	for i := range n.Next {
		for k := range n.Next[i] {
			l = append(l, &n.Next[i][k])
		}
	}
	for i := range n.Spurs {
		l = append(l, &n.Spurs[i].In, &n.Spurs[i].Out, &n.Spurs[i].Slots, &n.Spurs[i].Base)
	}
	for i := range n.Robots {
		l = append(l, &n.Robots[i])
	}
	return l
}

// P3.2: each number of a network, changed alone and together with another one.
func TestValidNumbers(t *testing.T) {
	values := []int{-1, 0, 1, 2, 3, 4, 5, 6, 7, 8, 9, 10, 11, 16, 17}
	n := mixedNet()
	for i, x := range numbers(&n) {
		was := *x
		for _, *x = range append(values, 9999, 10000, -9999, -10000, 1<<32, math.MaxInt, math.MinInt) {
			checkValid(t, n)
		}
		for _, y := range numbers(&n)[i+1:] {
			alsoWas := *y
			for _, *x = range values {
				for _, *y = range values {
					checkValid(t, n)
				}
			}
			*y = alsoWas
		}
		*x = was
	}
	checkThere(t, n)
}

// P3.2: all lists of lanes of three blocks, and all placements of two robots.
func TestValidLists(t *testing.T) {
	n := mixedNet()
	lists := [][]int{nil}
	for i := 0; i < len(lists) && len(lists[i]) < 3; i++ {
		for to := -1; to <= 3; to++ {
			lists = append(lists, append(slices.Clone(lists[i]), to))
		}
	}
	for _, one := range lists {
		for _, other := range lists {
			n.Next[0], n.Next[2] = one, other
			checkValid(t, n)
		}
	}
	n = mixedNet()
	for one := -1; one <= 12; one++ {
		for other := -1; other <= 12; other++ {
			n.Robots = []int{one, other}
			checkValid(t, n)
		}
	}
}

// within reports whether two strings share memory.
func within(s, whole string) bool {
	at, first := uintptr(unsafe.Pointer(unsafe.StringData(s))), uintptr(unsafe.Pointer(unsafe.StringData(whole)))
	return at >= first && at < first+uintptr(len(whole))
}

// R2: the lists of Build share no memory with the declarations or with each other.
func TestBuildNewMemory(t *testing.T) {
	d := decls(t, mixed)
	n, _, _ := netmap.Build(d)
	for _, x := range d {
		for _, name := range x.Names {
			for _, b := range n.Blocks {
				if within(b.Name, name) {
					t.Errorf("the name of block %q shares memory with a declaration", name)
				}
			}
			for _, s := range n.Spurs {
				if within(s.Name, name) {
					t.Errorf("the name of spur %q shares memory with a declaration", name)
				}
			}
		}
		clear(x.Names)
		clear(x.Nums)
	}
	_, _ = append(n.Blocks, api.Block{Name: "x"}), append(n.Spurs, api.Spur{Name: "x"})
	_, _ = append(n.Next, []int{7, 7}), append(n.Robots, 7, 7, 7)
	for _, next := range n.Next {
		_ = append(next, 7, 7, 7, 7)
	}
	if want := mixedNet(); !sameNet(n, want) {
		t.Errorf("after changes of the declarations and of its lists the result is %+v, want %+v", n, want)
	}
}

// R2: the lists of Describe share no memory with the network or with each other.
func TestDescribeNewMemory(t *testing.T) {
	n := mixedNet()
	for i := range n.Blocks {
		n.Blocks[i].Name = strings.Clone(n.Blocks[i].Name)
	}
	want, _ := netmap.Describe(n)
	d, _ := netmap.Describe(n)
	for _, x := range d {
		for _, name := range x.Names {
			for _, b := range n.Blocks {
				if within(name, b.Name) {
					t.Errorf("name %q shares memory with a block", name)
				}
			}
		}
		_ = append(x.Names, "x", "y", "z")
		_ = append(x.Nums, 7, 7, 7)
	}
	clear(n.Blocks)
	clear(n.Next[0])
	clear(n.Spurs)
	clear(n.Robots)
	for i := range d {
		if !sameDecls(d[i:], want[i:]) {
			t.Errorf("after changes of the network and of its lists the result is %+v, want %+v", d[i:], want[i:])
		}
		clear(d[i].Names)
		clear(d[i].Nums)
	}
}

// R2: arguments are left as they were, also behind their ends. R6: a second call has the same result.
func TestArgumentsKept(t *testing.T) {
	d, n := decls(t, mixed), mixedNet()
	want, _ := netmap.Describe(n)
	for range 2 {
		checkBuild(t, d, mixedNet())
		checkDescribe(t, n, want)
	}
	if !reflect.DeepEqual(d, decls(t, mixed)) || !reflect.DeepEqual(n, mixedNet()) {
		t.Errorf("the arguments were changed to %+v and %+v", d, n)
	}
	shared := []string{"a", "b", "x"}
	lane := api.Decl{Word: api.WordLane, Line: 1, Names: shared[:2]}
	checkBuild(t, slices.Insert(decls(t, "block a 0 0;block b 5 -5;lane b a;depot d a b 2;robot d 2"), 2, lane), exampleNet())
	if !slices.Equal(shared, []string{"a", "b", "x"}) {
		t.Errorf("Build changed the names behind its argument to %v", shared)
	}
}
