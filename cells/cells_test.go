package cells_test

import (
	"fmt"
	"math"
	"math/rand/v2"
	"reflect"
	"slices"
	"strconv"
	"strings"
	"testing"
	"unsafe"

	"blockway/api"
	"blockway/cells"
	"blockway/fields"
	"blockway/layout"
	"blockway/netmap"
)

// network returns the network of a layout without errors; semicolons end lines.
func network(t *testing.T, text string) api.Net {
	t.Helper()
	l, _, e := fields.Lines(strings.ReplaceAll(text, ";", "\n"))
	if e != api.OK {
		t.Fatalf("Lines(%q) has the error %d", text, e)
	}
	d, _, e := layout.Parse(l)
	if e != api.OK {
		t.Fatalf("Parse of %q has the error %d", text, e)
	}
	n, _, e := netmap.Build(d)
	if e != api.OK {
		t.Fatalf("Build of %q has the error %d", text, e)
	}
	return n
}

// example is the layout of the example of layer 3.
const example = "block a 0 0;block b 5 -5;lane a b a;depot d a b 2;robot d 2"

// mixed has two spurs from one block, in an order that is not that of the blocks, and one that leads back to its In.
const mixed = "block a 0 0;block b 1 0;block c 0 1;block z 5 5;lane a b c a;lane b a;station s c c 1;depot d a b 2;depot e b a 3;station t a z 4;robot d 2;robot e 1"

// full returns a layout in which every limit of blocks, lanes and slots is reached, and each spur leads from the last block.
func full() string {
	var text strings.Builder
	for i := range api.MaxBlocks {
		text.WriteString("block b" + strconv.Itoa(i) + " 0 0;")
	}
	for i := range api.MaxBlocks {
		for k := range api.MaxOut {
			text.WriteString("lane b" + strconv.Itoa(i) + " b" + strconv.Itoa((i+5*k+1)%api.MaxBlocks) + ";")
		}
	}
	for i := range api.MaxSpurs {
		text.WriteString("depot d" + strconv.Itoa(i) + " b23 b" + strconv.Itoa(i) + " 4;")
	}
	return text.String()
}

// cell is what the definitions say of a cell.
type cell struct {
	name       string
	spur, slot int
	next       []string
}

// model returns the cells in their order; it counts them itself, and knows those that follow by their names.
func model(n api.Net) []cell {
	var l []cell
	for i, b := range n.Blocks {
		c := cell{name: b.Name, spur: -1}
		for _, to := range n.Next[i] {
			c.next = append(c.next, n.Blocks[to].Name)
		}
		for _, s := range n.Spurs {
			if n.Blocks[s.In].Name == b.Name {
				c.next = append(c.next, s.Name+"/1")
			}
		}
		l = append(l, c)
	}
	for i, s := range n.Spurs {
		for slot := 1; slot < s.Slots; slot++ {
			l = append(l, cell{fmt.Sprint(s.Name, "/", slot), i, slot, []string{fmt.Sprint(s.Name, "/", slot+1)}})
		}
		l = append(l, cell{fmt.Sprint(s.Name, "/", s.Slots), i, s.Slots, []string{n.Blocks[s.Out].Name}})
	}
	return l
}

// numbers returns the cells with these names, in ascending order.
func numbers(l []cell, names []string) []int {
	var found []int
	for i, c := range l {
		if slices.Contains(names, c.name) {
			found = append(found, i)
		}
	}
	return found
}

// short keeps the messages of tests with long arguments readable.
func short(x any) string {
	return fmt.Sprintf("%.400s", fmt.Sprintf("%+v", x))
}

func checkCount(t *testing.T, n api.Net, want int) {
	t.Helper()
	if got, e := cells.Count(n); e != api.OK || got != want {
		t.Errorf("Count(%s) = %d, %d, want %d, 0", short(n), got, e, want)
	}
}

func checkPlace(t *testing.T, n api.Net, cell, wantSpur, wantSlot int) {
	t.Helper()
	spur, slot, e := cells.Place(n, cell)
	if e != api.OK || spur != wantSpur || slot != wantSlot {
		t.Errorf("Place(%s, %d) = %d, %d, %d, want %d, %d, 0", short(n), cell, spur, slot, e, wantSpur, wantSlot)
	}
}

func checkHead(t *testing.T, n api.Net, spur, want int) {
	t.Helper()
	if got, e := cells.Head(n, spur); e != api.OK || got != want {
		t.Errorf("Head(%s, %d) = %d, %d, want %d, 0", short(n), spur, got, e, want)
	}
}

// checkNext checks Next, and Follows with all cells and some numbers that are none.
func checkNext(t *testing.T, n api.Net, a int, want []int) {
	t.Helper()
	got, e := cells.Next(n, a)
	if e != api.OK || !slices.Equal(got, want) {
		t.Errorf("Next(%s, %d) = %v, %d, want %v, 0", short(n), a, got, e, want)
	}
	for b := -3; b < api.MaxCells+3; b++ {
		checkFollows(t, n, a, b, slices.Contains(want, b))
	}
	checkFollows(t, n, a, math.MaxInt, false)
	checkFollows(t, n, a, math.MinInt, false)
}

func checkFollows(t *testing.T, n api.Net, a, b int, want bool) {
	t.Helper()
	if got := cells.Follows(n, a, b); got != want {
		t.Errorf("Follows(%s, %d, %d) is %v", short(n), a, b, got)
	}
}

func checkOpen(t *testing.T, n api.Net, shut []bool, spur int, want bool) {
	t.Helper()
	if got, e := cells.Open(n, shut, spur); e != api.OK || got != want {
		t.Errorf("Open(%s, %v, %d) = %v, %d, want %v, 0", short(n), shut, spur, got, e, want)
	}
}

func checkName(t *testing.T, n api.Net, cell int, want string) {
	t.Helper()
	if got, e := cells.Name(n, cell); e != api.OK || got != want {
		t.Errorf("Name(%s, %d) = %q, %d, want %q, 0", short(n), cell, got, e, want)
	}
}

// checkCellError checks the functions of a cell.
func checkCellError(t *testing.T, n api.Net, cell int, want api.Errno) {
	t.Helper()
	if spur, slot, e := cells.Place(n, cell); e != want || spur != 0 || slot != 0 {
		t.Errorf("Place(%s, %d) = %d, %d, %d, want 0, 0, %d", short(n), cell, spur, slot, e, want)
	}
	if next, e := cells.Next(n, cell); e != want || len(next) != 0 {
		t.Errorf("Next(%s, %d) = %v, %d, want none, %d", short(n), cell, next, e, want)
	}
	if name, e := cells.Name(n, cell); e != want || name != "" {
		t.Errorf("Name(%s, %d) = %q, %d, want none, %d", short(n), cell, name, e, want)
	}
	for _, b := range []int{0, 1, 2, 3, -1, cell, math.MaxInt, math.MinInt} {
		checkFollows(t, n, cell, b, false)
	}
}

func checkHeadError(t *testing.T, n api.Net, spur int, want api.Errno) {
	t.Helper()
	if got, e := cells.Head(n, spur); e != want || got != 0 {
		t.Errorf("Head(%s, %d) = %d, %d, want 0, %d", short(n), spur, got, e, want)
	}
}

func checkOpenError(t *testing.T, n api.Net, shut []bool, spur int, want api.Errno) {
	t.Helper()
	if got, e := cells.Open(n, shut, spur); e != want || got {
		t.Errorf("Open(%s, %s, %d) = %v, %d, want false, %d", short(n), short(shut), spur, got, e, want)
	}
}

// checkModel checks P9.1, P9.2 and P9.4 for all cells and spurs of a network.
func checkModel(t *testing.T, n api.Net) {
	t.Helper()
	l := model(n)
	checkCount(t, n, len(l))
	for i, c := range l {
		checkPlace(t, n, i, c.spur, c.slot)
		checkNext(t, n, i, numbers(l, c.next))
		checkName(t, n, i, c.name)
	}
	for i, s := range n.Spurs {
		checkHead(t, n, i, numbers(l, []string{fmt.Sprint(s.Name, "/", s.Slots)})[0])
	}
	for _, none := range []int{-1, len(l)} {
		checkCellError(t, n, none, api.ErrRange)
	}
	checkHeadError(t, n, len(n.Spurs), api.ErrRange)
}

// openModel says by the names of the shut cells whether a spur is open.
func openModel(n api.Net, shut []bool, spur int) bool {
	s := n.Spurs[spur]
	for i, c := range model(n) {
		name, _, _ := strings.Cut(c.name, "/")
		if shut[i] && (name == s.Name || name == n.Blocks[s.In].Name || name == n.Blocks[s.Out].Name) {
			return false
		}
	}
	return true
}

// P9.1: the numbers of cells, with a spur of one slot and of as many as there may be.
func TestCount(t *testing.T) {
	checkCount(t, network(t, example), 4)
	checkCount(t, network(t, mixed), 14)
	checkCount(t, network(t, "block a 0 0;depot d a a 1"), 2)
	checkCount(t, network(t, "block a 0 0;depot d a a 4"), 5)
	checkCount(t, network(t, full()), api.MaxCells)
}

// P9.1: blocks, and the first, middle and last slots of spurs.
func TestPlace(t *testing.T) {
	n := network(t, mixed)
	for cell, want := range [][2]int{
		{-1, 0}, {-1, 0}, {-1, 0}, {-1, 0},
		{0, 1},
		{1, 1}, {1, 2},
		{2, 1}, {2, 2}, {2, 3},
		{3, 1}, {3, 2}, {3, 3}, {3, 4},
	} {
		checkPlace(t, n, cell, want[0], want[1])
	}
	n = network(t, full())
	checkPlace(t, n, api.MaxBlocks-1, -1, 0)
	checkPlace(t, n, api.MaxBlocks, 0, 1)
	checkPlace(t, n, api.MaxCells-1, api.MaxSpurs-1, api.MaxSlots)
}

// P9.1: a head is the last slot, which may also be the first one.
func TestHead(t *testing.T) {
	checkHead(t, network(t, example), 0, 3)
	for spur, want := range []int{4, 6, 9, 13} {
		checkHead(t, network(t, mixed), spur, want)
	}
	for spur, want := range []int{27, 31, 35, 39, 43, 47} {
		checkHead(t, network(t, full()), spur, want)
	}
}

// P9.2: the example of the chapter.
func TestNextExample(t *testing.T) {
	n := network(t, example)
	checkNext(t, n, 0, []int{1, 2})
	checkNext(t, n, 1, []int{0})
	checkNext(t, n, 2, []int{3})
	checkNext(t, n, 3, []int{1})
}

// P9.2: blocks with lanes, first slots, both and neither; slots, and heads with and without a slot before.
func TestNext(t *testing.T) {
	n := network(t, mixed)
	for cell, want := range [][]int{
		{1, 5, 10}, {0, 2, 7}, {0, 4}, {},
		{2},
		{6}, {1},
		{8}, {9}, {0},
		{11}, {12}, {13}, {3},
	} {
		checkNext(t, n, cell, want)
	}
	n = network(t, "block a 0 0;depot d a a 1")
	checkNext(t, n, 0, []int{1})
	checkNext(t, n, 1, []int{0})
	n = network(t, full())
	checkNext(t, n, 22, []int{4, 9, 14, 23})
	checkNext(t, n, 23, []int{0, 5, 10, 15, 24, 28, 32, 36, 40, 44})
}

// P9.2: lanes and chains have a direction, no cell follows itself, and nothing follows or is followed by a number that is no cell.
func TestFollows(t *testing.T) {
	n := network(t, mixed)
	for _, c := range []struct {
		a, b int
		want bool
	}{
		{0, 1, true}, {1, 0, true}, {1, 2, true}, {2, 1, false}, {2, 0, true}, {0, 2, false},
		{0, 5, true}, {5, 0, false}, {0, 6, false}, {5, 6, true}, {6, 5, false}, {6, 1, true}, {1, 6, false}, {6, 7, false},
		{2, 4, true}, {4, 2, true}, {4, 5, false}, {5, 1, false}, {3, 4, false}, {9, 10, false}, {13, 3, true}, {13, 14, false},
		{0, 0, false}, {4, 4, false}, {13, 13, false},
		{-1, 0, false}, {0, -1, false}, {14, 0, false}, {0, 14, false}, {-1, -1, false}, {14, 14, false}, {-1, 14, false},
	} {
		checkFollows(t, n, c.a, c.b, c.want)
	}
}

// allShut calls a function with all choices of shut cells.
func allShut(count int, f func(shut []bool)) {
	for bits := range 1 << count {
		shut := make([]bool, count)
		for cell := range shut {
			shut[cell] = bits>>cell&1 == 1
		}
		f(shut)
	}
}

// P9.3: one shut cell at a time, with those that belong to each spur: In, Out and all slots.
func TestOpen(t *testing.T) {
	n := network(t, mixed)
	for spur, own := range [][]int{{2, 4}, {0, 1, 5, 6}, {1, 0, 7, 8, 9}, {0, 3, 10, 11, 12, 13}} {
		shut := make([]bool, 14)
		checkOpen(t, n, shut, spur, true)
		for cell := range shut {
			shut[cell] = true
			checkOpen(t, n, shut, spur, !slices.Contains(own, cell))
			shut[cell] = false
		}
		for cell := range shut {
			shut[cell] = !slices.Contains(own, cell)
		}
		checkOpen(t, n, shut, spur, true)
		checkOpen(t, n, slices.Repeat([]bool{true}, 14), spur, false)
	}
}

// P9.3: all choices of shut cells.
func TestOpenModel(t *testing.T) {
	for text, count := range map[string]int{
		"block a 0 0;depot d a a 1": 2,
		"block a 0 0;depot d a a 4": 5,
		example:                     4,
		"block a 0 0;block b 0 0;block c 0 0;lane a b c a;depot d a b 2;station s c c 1;depot e b a 3": 9,
	} {
		n := network(t, text)
		allShut(count, func(shut []bool) {
			for spur := range n.Spurs {
				checkOpen(t, n, shut, spur, openModel(n, shut, spur))
			}
		})
	}
}

// P9.4: blocks and slots, with names as long as they may be.
func TestName(t *testing.T) {
	checkName(t, network(t, example), 3, "d/2")
	n := network(t, mixed)
	for cell, want := range []string{"a", "b", "c", "z", "s/1", "d/1", "d/2", "e/1", "e/2", "e/3", "t/1", "t/2", "t/3", "t/4"} {
		checkName(t, n, cell, want)
	}
	n = network(t, "block a2345678901- 0 0;depot D_345678901b a2345678901- a2345678901- 4")
	checkName(t, n, 0, "a2345678901-")
	checkName(t, n, 4, "D_345678901b/4")
	n = network(t, full())
	checkName(t, n, 23, "b23")
	checkName(t, n, 24, "d0/1")
	checkName(t, n, 47, "d5/4")
}

// P9.1, P9.2, P9.4: networks of all kinds against a model of the definitions, with all their cells.
func TestAgainstModel(t *testing.T) {
	for _, text := range []string{example, mixed, full(), "block a 0 0;depot d a a 1"} {
		checkModel(t, network(t, text))
	}
	random := rand.New(rand.NewPCG(9, 9))
	for range 300 {
		checkModel(t, randomNet(random))
	}
}

// P9.3: networks of all kinds with some shut cells.
func TestOpenAgainstModel(t *testing.T) {
	random := rand.New(rand.NewPCG(9, 3))
	for range 2000 {
		n := randomNet(random)
		shut := make([]bool, len(model(n)))
		for cell := range shut {
			shut[cell] = random.IntN(8) == 0
		}
		for spur := range n.Spurs {
			checkOpen(t, n, shut, spur, openModel(n, shut, spur))
		}
	}
}

// randomNet returns a valid network; its lanes and spurs are many or few.
func randomNet(random *rand.Rand) api.Net {
	n := api.Net{Config: api.Config{Queue: 1, Patience: 1}}
	blocks, lanes := 1+random.IntN(api.MaxBlocks), random.IntN(api.MaxOut+1)
	for i := range blocks {
		next := slices.DeleteFunc(random.Perm(blocks), func(to int) bool { return to == i })
		next = next[:min(lanes, len(next))]
		slices.Sort(next)
		n.Blocks = append(n.Blocks, api.Block{Name: "b" + strconv.Itoa(i)})
		n.Next = append(n.Next, next)
	}
	base := blocks
	for i := range 1 + random.IntN(api.MaxSpurs) {
		s := api.Spur{Name: "s" + strconv.Itoa(i), Depot: i == 0, In: random.IntN(blocks), Out: random.IntN(blocks), Slots: 1 + random.IntN(api.MaxSlots), Base: base}
		n.Spurs = append(n.Spurs, s)
		base += s.Slots
	}
	return n
}

// P9.1 to P9.4: networks that are not valid, with arguments that would fit and others: ErrInvalid comes before ErrRange.
func TestNotValid(t *testing.T) {
	nets := []api.Net{{}, {Blocks: make([]api.Block, 1e6), Next: make([][]int, 1e6)}}
	for _, change := range []func(n *api.Net){
		func(n *api.Net) { n.Blocks = nil },
		func(n *api.Net) { n.Blocks[1].Name = "a" },
		func(n *api.Net) { n.Blocks[1].Name = "s" },
		func(n *api.Net) { n.Blocks[1].X = api.MaxInt + 1 },
		func(n *api.Net) { n.Next = nil },
		func(n *api.Net) { n.Next[0] = []int{0} },
		func(n *api.Net) { n.Next[0] = []int{2, 1} },
		func(n *api.Net) { n.Next[0] = []int{math.MaxInt} },
		func(n *api.Net) { n.Spurs = nil },
		func(n *api.Net) { n.Spurs, n.Robots = nil, nil },
		func(n *api.Net) { n.Spurs[0].In = -1 },
		func(n *api.Net) { n.Spurs[0].In = 4 },
		func(n *api.Net) { n.Spurs[0].Out = math.MinInt },
		func(n *api.Net) { n.Spurs[0].Out = math.MaxInt },
		func(n *api.Net) { n.Spurs[0].Slots = 0 },
		func(n *api.Net) { n.Spurs[0].Slots = math.MinInt },
		func(n *api.Net) { n.Spurs[3].Slots = 5 },
		func(n *api.Net) { n.Spurs[3].Slots = math.MaxInt },
		func(n *api.Net) { n.Spurs[0].Base = 3 },
		func(n *api.Net) { n.Spurs[0].Base = math.MinInt },
		func(n *api.Net) { n.Spurs[3].Base = math.MaxInt },
		func(n *api.Net) { n.Spurs[0], n.Spurs[1] = n.Spurs[1], n.Spurs[0] },
		func(n *api.Net) { n.Robots[0] = 4 },
		func(n *api.Net) { n.Robots[0] = 0 },
		func(n *api.Net) { n.Robots[1] = n.Robots[0] },
		func(n *api.Net) { n.Config = api.Config{} },
		func(n *api.Net) { n.Config.Patience = 0 },
	} {
		n := network(t, mixed)
		change(&n)
		nets = append(nets, n)
	}
	for _, n := range nets {
		if got, e := cells.Count(n); e != api.ErrInvalid || got != 0 {
			t.Errorf("Count(%s) = %d, %d, want 0, %d", short(n), got, e, api.ErrInvalid)
		}
		for _, i := range []int{0, 1, 2, 3, 4, 13, 14, -1, math.MaxInt, math.MinInt} {
			checkCellError(t, n, i, api.ErrInvalid)
			checkHeadError(t, n, i, api.ErrInvalid)
			for _, count := range []int{14, 13, 0} {
				checkOpenError(t, n, make([]bool, count), i, api.ErrInvalid)
			}
		}
	}
}

// P9.1, P9.2, P9.4: arguments that are no cells.
func TestCellRange(t *testing.T) {
	for text, count := range map[string]int{"block a 0 0;depot d a a 1": 2, example: 4, mixed: 14, full(): api.MaxCells} {
		n := network(t, text)
		for _, cell := range []int{-1, -2, count, count + 1, api.MaxCells, api.MaxCells + 1, 1 << 32, -1 << 32, math.MaxInt, math.MinInt} {
			checkCellError(t, n, cell, api.ErrRange)
		}
	}
}

// P9.1, P9.3: arguments that are no spurs.
func TestSpurRange(t *testing.T) {
	for text, count := range map[string]int{"block a 0 0;depot d a a 1": 1, example: 1, mixed: 4, full(): api.MaxSpurs} {
		n := network(t, text)
		total, _ := cells.Count(n)
		for _, spur := range []int{-1, -2, count, count + 1, api.MaxSpurs, api.MaxSpurs + 1, 1 << 32, -1 << 32, math.MaxInt, math.MinInt} {
			checkHeadError(t, n, spur, api.ErrRange)
			checkOpenError(t, n, make([]bool, total), spur, api.ErrRange)
			checkOpenError(t, n, slices.Repeat([]bool{true}, total), spur, api.ErrRange)
			checkOpenError(t, n, nil, spur, api.ErrRange)
		}
	}
}

// P9.3: shut cells that are not as many as the cells.
func TestShutLength(t *testing.T) {
	for text, count := range map[string]int{"block a 0 0;depot d a a 1": 2, example: 4, mixed: 14, full(): api.MaxCells} {
		n := network(t, text)
		for _, length := range []int{0, 1, count - 1, count + 1, len(n.Blocks), len(n.Spurs), api.MaxCells, api.MaxCells + 1, 1e6} {
			if length != count {
				checkOpenError(t, n, make([]bool, length), 0, api.ErrRange)
				checkOpenError(t, n, slices.Repeat([]bool{true}, length), 0, api.ErrRange)
			}
		}
		checkOpenError(t, n, nil, 0, api.ErrRange)
	}
}

// R3: nil and empty lists of a network are the same, and so are those of a result.
func TestEmptyLists(t *testing.T) {
	n := network(t, "block a 0 0;block b 0 0;depot d a b 1")
	for _, next := range [][]int{nil, {}} {
		for _, robots := range [][]int{nil, {}} {
			n.Next[0], n.Next[1], n.Robots = next, next, robots
			checkModel(t, n)
			checkNext(t, n, 0, []int{2})
			checkNext(t, n, 1, nil)
			checkOpen(t, n, make([]bool, 3), 0, true)
		}
	}
}

// P9.2: every slot is followed by one cell, and only a first slot has cells before it that are no blocks or slots of its own spur.
func TestSlotsStayTogether(t *testing.T) {
	random := rand.New(rand.NewPCG(9, 2))
	for range 300 {
		n := randomNet(random)
		count, _ := cells.Count(n)
		for a := range count {
			spur, _, _ := cells.Place(n, a)
			next, _ := cells.Next(n, a)
			if spur >= 0 && len(next) != 1 {
				t.Errorf("in %s slot %d is followed by %v", short(n), a, next)
			}
			for _, b := range next {
				after, slot, _ := cells.Place(n, b)
				if after >= 0 && after != spur && slot != 1 {
					t.Errorf("in %s cell %d is followed by %d, slot %d of spur %d", short(n), a, b, slot, after)
				}
			}
		}
	}
}

// within reports whether two strings share memory.
func within(s, whole string) bool {
	at, first := uintptr(unsafe.Pointer(unsafe.StringData(s))), uintptr(unsafe.Pointer(unsafe.StringData(whole)))
	return at >= first && at < first+uintptr(len(whole))
}

// R2: results share no memory with the network or with each other.
func TestNewMemory(t *testing.T) {
	n := network(t, mixed)
	for i := range n.Next {
		n.Next[i] = append(make([]int, 0, 20), n.Next[i]...)
	}
	for a, c := range model(n) {
		want := numbers(model(n), c.next)
		got, _ := cells.Next(n, a)
		other, _ := cells.Next(n, a)
		_ = append(got, 7, 7, 7, 7)
		clear(got[:cap(got)])
		if !slices.Equal(other, want) {
			t.Errorf("a change of one result of Next changed the other one to %v, want %v", other, want)
		}
		checkNext(t, n, a, want)
		name, _ := cells.Name(n, a)
		for _, b := range n.Blocks {
			if within(name, b.Name) {
				t.Errorf("name %q shares memory with a block", name)
			}
		}
		for _, s := range n.Spurs {
			if within(name, s.Name) {
				t.Errorf("name %q shares memory with a spur", name)
			}
		}
	}
	got, _ := cells.Next(n, 0)
	for _, next := range n.Next {
		clear(next)
	}
	clear(n.Spurs)
	if !slices.Equal(got, []int{1, 5, 10}) {
		t.Errorf("a change of the network changed the result of Next to %v", got)
	}
}

// R2: arguments are left as they were, also behind their ends. R6: a second call has the same result.
func TestArgumentsKept(t *testing.T) {
	n, want := network(t, mixed), network(t, mixed)
	lanes := []int{1, 99, 99, 99, 99}
	n.Next[0] = lanes[:1]
	shut := slices.Repeat([]bool{true}, 20)
	clear(shut[:14])
	kept := slices.Clone(shut)
	for range 2 {
		checkModel(t, n)
		for spur := range n.Spurs {
			checkOpen(t, n, shut[:14], spur, true)
		}
	}
	if !reflect.DeepEqual(n, want) || !slices.Equal(lanes, []int{1, 99, 99, 99, 99}) || !slices.Equal(shut, kept) {
		t.Errorf("the arguments were changed to %+v, %v, %v", n, lanes, shut)
	}
}
