package closure_test

import (
	"fmt"
	"math"
	"math/rand/v2"
	"reflect"
	"slices"
	"strconv"
	"strings"
	"testing"

	"blockway/api"
	"blockway/closure"
	"blockway/fields"
	"blockway/layout"
	"blockway/netmap"
)

// network returns the network of a layout without errors; semicolons end lines.
func network(t *testing.T, text string) api.Net {
	t.Helper()
	l, _, e := fields.Lines(strings.ReplaceAll(text, ";", "\n"))
	if e != api.OK {
		t.Fatalf("Lines(%q) has the error %d", text, e)
	}
	d, _, e := layout.Parse(l)
	if e != api.OK {
		t.Fatalf("Parse of %q has the error %d", text, e)
	}
	n, _, e := netmap.Build(d)
	if e != api.OK {
		t.Fatalf("Build of %q has the error %d", text, e)
	}
	return n
}

// single has as few cells as there may be.
const single = "block a 0 0;depot d a a 1"

// circle has the cells a 0, b 1, c 2, d 3.
const circle = "block a 0 0;block b 1 0;block c 0 1;lane a b c a;depot d a a 1"

// chain has lanes in both directions, and the cells a 0, b 1, c 2, d 3 to 4, s 5 to 8, e 9 to 11.
const chain = "block a 0 0;block b 1 0;block c 2 0;lane a b c b a;depot d a a 2;station s b b 4;depot e b c 3;robot d 2;robot e 1"

// tail has a block z that is entered from the others and not left, and the cells a 0, b 1, z 2, d 3 to 4.
const tail = "block a 0 0;block b 1 0;block z 2 0;lane a b a;lane b z;depot d a b 2"

// full returns a layout in which every limit of blocks, lanes and slots is reached; spur i leads from block i to block i + 6, and the spurs with odd numbers are stations.
func full() string {
	var text strings.Builder
	for i := range api.MaxBlocks {
		text.WriteString("block b" + strconv.Itoa(i) + " 0 0;")
	}
	for i := range api.MaxBlocks {
		for k := range api.MaxOut {
			text.WriteString("lane b" + strconv.Itoa(i) + " b" + strconv.Itoa((i+5*k+1)%api.MaxBlocks) + ";")
		}
	}
	for i := range api.MaxSpurs {
		word := []string{"depot", "station"}[i%2]
		text.WriteString(word + " d" + strconv.Itoa(i) + " b" + strconv.Itoa(i) + " b" + strconv.Itoa(i+6) + " 4;")
	}
	return text.String()
}

// cellCount counts the cells of a network.
func cellCount(n api.Net) int {
	count := len(n.Blocks)
	for _, s := range n.Spurs {
		count += s.Slots
	}
	return count
}

// slotsModel walks along the cells and drops each depot that has one which is shut.
func slotsModel(n api.Net, shut []bool) int {
	sum, cell := 0, len(n.Blocks)
	for _, s := range n.Spurs {
		hit := shut[s.In] || shut[s.Out]
		for range s.Slots {
			hit = hit || shut[cell]
			cell++
		}
		if s.Depot && !hit {
			sum += s.Slots
		}
	}
	return sum
}

// mutualModel finds for all pairs of open blocks whether there is a path, with one block more in between each time.
func mutualModel(n api.Net, shut []bool) bool {
	var path [api.MaxBlocks][api.MaxBlocks]bool
	var open []int
	for a, next := range n.Next {
		if shut[a] {
			continue
		}
		open = append(open, a)
		path[a][a] = true
		for _, b := range next {
			path[a][b] = !shut[b]
		}
	}
	for _, between := range open {
		for _, a := range open {
			for _, b := range open {
				path[a][b] = path[a][b] || path[a][between] && path[between][b]
			}
		}
	}
	for _, a := range open {
		for _, b := range open {
			if !path[a][b] {
				return false
			}
		}
	}
	return len(open) > 0
}

// short keeps the messages of tests with long arguments readable.
func short(x any) string {
	return fmt.Sprintf("%.400s", fmt.Sprintf("%+v", x))
}

func checkSlots(t *testing.T, n api.Net, shut []bool, want int) {
	t.Helper()
	if got, e := closure.Slots(n, shut); e != api.OK || got != want {
		t.Errorf("Slots(%s, %v) = %d, %d, want %d, 0", short(n), shut, got, e, want)
	}
}

func checkCarries(t *testing.T, n api.Net, shut []bool, fleet int, want bool) {
	t.Helper()
	if got, e := closure.Carries(n, shut, fleet); e != api.OK || got != want {
		t.Errorf("Carries(%s, %v, %d) = %v, %d, want %v, 0", short(n), shut, fleet, got, e, want)
	}
}

func checkAllowed(t *testing.T, n api.Net, shut []bool, block, fleet int, want bool) {
	t.Helper()
	if got, e := closure.Allowed(n, shut, block, fleet); e != api.OK || got != want {
		t.Errorf("Allowed(%s, %v, %d, %d) = %v, %d, want %v, 0", short(n), shut, block, fleet, got, e, want)
	}
}

// checkMost checks that Carries holds for fleets up to most and for no greater one; with most -1 it never holds.
func checkMost(t *testing.T, n api.Net, shut []bool, most int) {
	t.Helper()
	for fleet := range api.MaxRobots + 1 {
		checkCarries(t, n, shut, fleet, fleet <= most)
	}
}

// checkMostAllowed is checkMost for Allowed.
func checkMostAllowed(t *testing.T, n api.Net, shut []bool, block, most int) {
	t.Helper()
	for fleet := range api.MaxRobots + 1 {
		checkAllowed(t, n, shut, block, fleet, fleet <= most)
	}
}

func checkSlotsError(t *testing.T, n api.Net, shut []bool, want api.Errno) {
	t.Helper()
	if got, e := closure.Slots(n, shut); e != want || got != 0 {
		t.Errorf("Slots(%s, %s) = %d, %d, want 0, %d", short(n), short(shut), got, e, want)
	}
}

func checkCarriesError(t *testing.T, n api.Net, shut []bool, fleet int, want api.Errno) {
	t.Helper()
	if got, e := closure.Carries(n, shut, fleet); e != want || got {
		t.Errorf("Carries(%s, %s, %d) = %v, %d, want false, %d", short(n), short(shut), fleet, got, e, want)
	}
}

func checkAllowedError(t *testing.T, n api.Net, shut []bool, block, fleet int, want api.Errno) {
	t.Helper()
	if got, e := closure.Allowed(n, shut, block, fleet); e != want || got {
		t.Errorf("Allowed(%s, %s, %d, %d) = %v, %d, want false, %d", short(n), short(shut), block, fleet, got, e, want)
	}
}

// checkModel checks P10.1 and P10.2 for all blocks and fleets.
func checkModel(t *testing.T, n api.Net, shut []bool) {
	t.Helper()
	checkSlots(t, n, shut, slotsModel(n, shut))
	checkMost(t, n, shut, mostModel(n, shut))
	for block := range n.Blocks {
		if shut[block] {
			checkMostAllowed(t, n, shut, block, -1)
			continue
		}
		more := slices.Clone(shut)
		more[block] = true
		checkMostAllowed(t, n, shut, block, mostModel(n, more))
	}
}

// mostModel returns the greatest fleet that a network carries, or -1.
func mostModel(n api.Net, shut []bool) int {
	if !mutualModel(n, shut) {
		return -1
	}
	return slotsModel(n, shut)
}

// these returns a list in which these cells of a network are shut.
func these(n api.Net, l ...int) []bool {
	shut := make([]bool, cellCount(n))
	for _, cell := range l {
		shut[cell] = true
	}
	return shut
}

// allShut calls a function with all choices of shut cells.
func allShut(count int, f func(shut []bool)) {
	for bits := range 1 << count {
		shut := make([]bool, count)
		for cell := range shut {
			shut[cell] = bits>>cell&1 == 1
		}
		f(shut)
	}
}

// P10.1: one shut cell at a time. A depot counts with all its slots or not at all, and stations never count.
func TestSlots(t *testing.T) {
	n := network(t, chain)
	checkSlots(t, n, these(n), 5)
	for cell, want := range []int{3, 2, 2, 3, 3, 5, 5, 5, 5, 2, 2, 2} {
		checkSlots(t, n, these(n, cell), want)
	}
	checkSlots(t, n, these(n, 5, 6, 7, 8), 5)
	checkSlots(t, n, these(n, 3, 4), 3)
	checkSlots(t, n, these(n, 9, 11), 2)
	checkSlots(t, n, these(n, 4, 10), 0)
	checkSlots(t, n, these(n, 0, 2), 0)
	checkSlots(t, n, these(n, 1, 2, 9, 10, 11), 2)
	checkSlots(t, n, slices.Repeat([]bool{true}, 12), 0)
	n = network(t, full())
	checkSlots(t, n, these(n), 12)
	checkSlots(t, n, these(n, 0, 47), 8)
	checkSlots(t, n, these(n, 6, 35, 10), 0)
	checkSlots(t, n, these(n, 1, 3, 5, 7, 9, 11, 12, 23, 28, 36, 44), 12)
	n = network(t, single)
	checkSlots(t, n, these(n), 1)
	checkSlots(t, n, these(n, 1), 0)
}

// P10.1: the slots of the open depots limit the fleet, and not the robots of the network.
func TestCarriesSlots(t *testing.T) {
	n := network(t, chain)
	for shut, most := range map[int]int{0: 3, 2: 2, 3: 3, 4: 3, 5: 5, 8: 5, 9: 2, 11: 2} {
		checkMost(t, n, these(n, shut), most)
	}
	checkMost(t, n, these(n), 5)
	checkMost(t, n, these(n, 3, 9), 0)
	checkMost(t, n, these(n, 0, 2), 0)
	n = network(t, full())
	checkMost(t, n, these(n), api.MaxRobots)
	checkMost(t, n, these(n, 24), api.MaxRobots)
	checkMost(t, n, these(n, 24, 32), 4)
	checkMost(t, n, these(n, 24, 32, 43), 0)
	n = network(t, single)
	checkMost(t, n, these(n), 1)
	checkMost(t, n, these(n, 1), 0)
}

// P10.1: the open blocks reach each other, if at least one is open.
func TestCarriesMutual(t *testing.T) {
	n := network(t, circle)
	checkMost(t, n, these(n), 1)
	for block := range 3 {
		checkMost(t, n, these(n, block), -1)
	}
	checkMost(t, n, these(n, 1, 2), 1)
	checkMost(t, n, these(n, 0, 1), 0)
	checkMost(t, n, these(n, 0, 1, 2), -1)
	n = network(t, chain)
	checkMost(t, n, these(n, 1), -1)
	checkMost(t, n, these(n, 0, 1, 2), -1)
	n = network(t, single)
	checkMost(t, n, these(n, 0), -1)
	checkMost(t, n, these(n, 0, 1), -1)
}

// P10.1: a block is reached over lanes, in their direction, and not over the slots of a spur.
func TestCarriesLanesOnly(t *testing.T) {
	n := network(t, "block a 0 0;block b 1 0;depot d a b 1;depot e b a 1")
	checkMost(t, n, these(n), -1)
	n = network(t, "block a 0 0;block b 1 0;lane a b;depot e b a 1")
	checkMost(t, n, these(n), -1)
	checkMost(t, n, these(n, 0), 0)
	n = network(t, "block a 0 0;block b 1 0;lane a b a;depot e b a 1")
	checkMost(t, n, these(n), 1)
	// Shut slots hold up nobody on the blocks.
	checkMost(t, n, these(n, 2), 0)
}

// P10.1: a network that carries no fleet may carry one when a block is shut, but not when a slot is.
func TestCarriesGrows(t *testing.T) {
	n := network(t, tail)
	checkMost(t, n, these(n), -1)
	checkMost(t, n, these(n, 3), -1)
	checkMost(t, n, these(n, 2), 2)
	checkMostAllowed(t, n, these(n), 2, 2)
	checkMostAllowed(t, n, these(n), 0, -1)
	checkMostAllowed(t, n, these(n, 2), 0, 0)
}

// P10.2: the examples of the chapter.
func TestAllowedExample(t *testing.T) {
	n := network(t, circle)
	for block := range 3 {
		checkMostAllowed(t, n, these(n), block, -1)
	}
	n = network(t, chain)
	for block, most := range []int{3, -1, 2} {
		checkMostAllowed(t, n, these(n), block, most)
	}
	n = network(t, "block a 0 0;block b 1 0;block c 2 0;lane a b c b a;depot d a a 1")
	for block, most := range []int{0, -1, 1} {
		checkMostAllowed(t, n, these(n), block, most)
	}
}

// P10.1, P10.2: the network of the document's example, whose depot needs both blocks.
func TestDocumentExample(t *testing.T) {
	n := network(t, "block a 0 0;block b 1 0;lane a b a;depot d a b 2;station s b a 1;station t b a 1;robot d 2")
	checkSlots(t, n, these(n), 2)
	checkMost(t, n, these(n), 2)
	checkMost(t, n, these(n, 4, 5), 2)
	for block := range 2 {
		checkMostAllowed(t, n, these(n), block, 0)
		checkMostAllowed(t, n, these(n, 1-block), block, -1)
	}
}

// P10.2: blocks that are shut already, and blocks beside other shut cells.
func TestAllowed(t *testing.T) {
	n := network(t, chain)
	for block := range 3 {
		checkMostAllowed(t, n, these(n, block), block, -1)
		checkMostAllowed(t, n, slices.Repeat([]bool{true}, 12), block, -1)
	}
	checkMostAllowed(t, n, these(n, 0), 2, 0)
	checkMostAllowed(t, n, these(n, 2), 0, 0)
	checkMostAllowed(t, n, these(n, 2), 1, 2)
	checkMostAllowed(t, n, these(n, 3), 2, 0)
	checkMostAllowed(t, n, these(n, 5, 6, 7, 8), 0, 3)
	checkMostAllowed(t, n, these(n, 1), 0, 0)
	checkMostAllowed(t, n, these(n, 1), 2, 2)
	// The last open block.
	checkMostAllowed(t, n, these(n, 0, 1), 2, -1)
	n = network(t, single)
	checkMostAllowed(t, n, these(n), 0, -1)
	n = network(t, full())
	checkMostAllowed(t, n, these(n), api.MaxBlocks-1, api.MaxRobots)
	checkMostAllowed(t, n, these(n, 26), 8, 4)
}

// P10.1, P10.2: all choices of shut cells of small networks against a model of the definitions.
func TestAllShut(t *testing.T) {
	for _, text := range []string{
		single, circle, tail,
		"block a 0 0;block b 0 0;block c 0 0;lane a b c a;lane b a;depot d a b 2;station s c c 1;depot e b a 3",
		"block a 0 0;block b 0 0;block c 0 0;block z 0 0;lane a b z c a;lane b a;depot d z z 1;depot e a z 1;station s a b 1",
	} {
		n := network(t, text)
		allShut(cellCount(n), func(shut []bool) { checkModel(t, n, shut) })
	}
}

// P10.1, P10.2: networks of all kinds with some shut cells.
func TestAgainstModel(t *testing.T) {
	random := rand.New(rand.NewPCG(10, 1))
	carried, allowed := 0, 0
	for range 600 {
		n := randomNet(random)
		shut := randomShut(random, n)
		checkModel(t, n, shut)
		if ok, _ := closure.Carries(n, shut, 1); ok {
			carried++
		}
		if ok, _ := closure.Allowed(n, shut, 0, 1); ok {
			allowed++
		}
	}
	if carried < 50 || allowed < 50 {
		t.Errorf("only %d networks carry a robot, and %d without block 0", carried, allowed)
	}
}

// randomNet returns a valid network; its lanes and spurs are many or few.
func randomNet(random *rand.Rand) api.Net {
	n := api.Net{Config: api.Config{Queue: 1, Patience: 1}}
	blocks, lanes := 1+random.IntN(api.MaxBlocks), random.IntN(api.MaxOut+1)
	for i := range blocks {
		next := slices.DeleteFunc(random.Perm(blocks), func(to int) bool { return to == i })
		next = next[:min(lanes, len(next))]
		slices.Sort(next)
		n.Blocks = append(n.Blocks, api.Block{Name: "b" + strconv.Itoa(i)})
		n.Next = append(n.Next, next)
	}
	base, depot := blocks, random.IntN(api.MaxSpurs)
	for i := range depot + 1 + random.IntN(api.MaxSpurs-depot) {
		s := api.Spur{Name: "s" + strconv.Itoa(i), Depot: i == depot || random.IntN(2) == 0, In: random.IntN(blocks), Out: random.IntN(blocks), Slots: 1 + random.IntN(api.MaxSlots), Base: base}
		n.Spurs = append(n.Spurs, s)
		base += s.Slots
	}
	return n
}

// randomShut returns no, few or some shut cells of a network.
func randomShut(random *rand.Rand, n api.Net) []bool {
	shut := these(n)
	rare := []int{1 << 20, 20, 6}[random.IntN(3)]
	for cell := range shut {
		shut[cell] = random.IntN(rare) == 0
	}
	return shut
}

// P10.1: what the chapter says follows: a smaller fleet is carried too, and Slots never grows when a cell is shut.
func TestConsequences(t *testing.T) {
	random := rand.New(rand.NewPCG(10, 2))
	for range 300 {
		n := randomNet(random)
		shut := randomShut(random, n)
		before := true
		for fleet := range api.MaxRobots + 1 {
			carries, _ := closure.Carries(n, shut, fleet)
			if carries && !before {
				t.Errorf("%s with %v shut carries %d robots, but not %d", short(n), shut, fleet, fleet-1)
			}
			before = carries
		}
		slots, _ := closure.Slots(n, shut)
		for cell := range shut {
			more := slices.Clone(shut)
			more[cell] = true
			if fewer, _ := closure.Slots(n, more); fewer > slots {
				t.Errorf("Slots of %s with %v shut is %d, and %d with cell %d shut", short(n), shut, slots, fewer, cell)
			}
		}
	}
}

// P10.1, P10.2: networks that are not valid, with arguments that would fit and others: ErrInvalid comes before ErrRange.
func TestNotValid(t *testing.T) {
	nets := []api.Net{{}, {Blocks: make([]api.Block, 1e6), Next: make([][]int, 1e6)}, {Spurs: make([]api.Spur, 1e6)}}
	for _, change := range []func(n *api.Net){
		func(n *api.Net) { n.Blocks = nil },
		func(n *api.Net) { n.Blocks[1].Name = "a" },
		func(n *api.Net) { n.Blocks[1].X = api.MaxInt + 1 },
		func(n *api.Net) { n.Next = nil },
		func(n *api.Net) { n.Next[0] = []int{0} },
		func(n *api.Net) { n.Next[1] = []int{2, 0} },
		func(n *api.Net) { n.Next[0] = []int{math.MaxInt} },
		func(n *api.Net) { n.Spurs, n.Robots = nil, nil },
		func(n *api.Net) { n.Spurs[0].Depot, n.Spurs[2].Depot, n.Robots = false, false, nil },
		func(n *api.Net) { n.Spurs[0].In = -1 },
		func(n *api.Net) { n.Spurs[0].In = 3 },
		func(n *api.Net) { n.Spurs[1].Out = math.MaxInt },
		func(n *api.Net) { n.Spurs[1].Out = math.MinInt },
		func(n *api.Net) { n.Spurs[0].Slots = 0 },
		func(n *api.Net) { n.Spurs[1].Slots = 5 },
		func(n *api.Net) { n.Spurs[2].Slots = math.MaxInt },
		func(n *api.Net) { n.Spurs[2].Base = math.MinInt },
		func(n *api.Net) { n.Spurs[2].Base = 10 },
		func(n *api.Net) { n.Robots[0] = 5 },
		func(n *api.Net) { n.Robots[1] = n.Robots[0] },
		func(n *api.Net) { n.Config.Patience = 0 },
	} {
		n := network(t, chain)
		change(&n)
		nets = append(nets, n)
	}
	for _, n := range nets {
		for _, count := range []int{12, 11, 13, 0} {
			shut := make([]bool, count)
			checkSlotsError(t, n, shut, api.ErrInvalid)
			for _, i := range []int{0, 1, -1, 3, 9, math.MaxInt, math.MinInt} {
				checkCarriesError(t, n, shut, i, api.ErrInvalid)
				checkAllowedError(t, n, shut, 0, i, api.ErrInvalid)
				checkAllowedError(t, n, shut, i, 0, api.ErrInvalid)
			}
		}
	}
}

// P10.1, P10.2: shut cells that are not as many as the cells.
func TestShutLength(t *testing.T) {
	for text, count := range map[string]int{single: 2, circle: 4, chain: 12, full(): api.MaxCells} {
		n := network(t, text)
		lists := [][]bool{nil}
		for _, length := range []int{0, 1, count - 1, count + 1, len(n.Blocks), len(n.Spurs), api.MaxCells, api.MaxCells + 1, 1e6} {
			if length != count {
				lists = append(lists, make([]bool, length), slices.Repeat([]bool{true}, length), make([]bool, length, 2e6))
			}
		}
		for _, shut := range lists {
			checkSlotsError(t, n, shut, api.ErrRange)
			checkCarriesError(t, n, shut, 0, api.ErrRange)
			checkAllowedError(t, n, shut, 0, 0, api.ErrRange)
			checkAllowedError(t, n, shut, -1, -1, api.ErrRange)
		}
	}
}

// P10.1, P10.2: fleets below 0 and above MaxRobots, also of blocks that are shut and of networks that carry none.
func TestFleetRange(t *testing.T) {
	for _, text := range []string{single, circle, chain, tail, full()} {
		n := network(t, text)
		for _, fleet := range []int{-1, -2, api.MaxRobots + 1, api.MaxRobots + 2, 12, 1 << 32, -1 << 32, math.MaxInt, math.MinInt} {
			for _, shut := range [][]bool{these(n), these(n, 0), slices.Repeat([]bool{true}, cellCount(n))} {
				checkCarriesError(t, n, shut, fleet, api.ErrRange)
				checkAllowedError(t, n, shut, 0, fleet, api.ErrRange)
				checkAllowedError(t, n, shut, -1, fleet, api.ErrRange)
			}
		}
	}
}

// P10.2: numbers that are no blocks; slots are none.
func TestBlockRange(t *testing.T) {
	for _, text := range []string{single, circle, chain, tail, full()} {
		n := network(t, text)
		last := len(n.Blocks) - 1
		for _, block := range []int{-1, -2, last + 1, cellCount(n) - 1, cellCount(n), api.MaxCells, 1 << 32, -1 << 32, math.MaxInt, math.MinInt} {
			for _, shut := range [][]bool{these(n), these(n, last), slices.Repeat([]bool{true}, cellCount(n))} {
				for _, fleet := range []int{0, api.MaxRobots, -1} {
					checkAllowedError(t, n, shut, block, fleet, api.ErrRange)
				}
			}
		}
	}
}

// R3: nil and empty lists of a network are the same.
func TestEmptyLists(t *testing.T) {
	n := network(t, "block a 0 0;block b 0 0;depot d a a 1")
	for _, next := range [][]int{nil, {}} {
		for _, robots := range [][]int{nil, {}} {
			n.Next[0], n.Next[1], n.Robots = next, next, robots
			allShut(3, func(shut []bool) { checkModel(t, n, shut) })
			checkMostAllowed(t, n, these(n), 1, 1)
		}
	}
}

// R2: arguments are left as they were, also behind their ends. R6: a second call has the same result.
func TestArgumentsKept(t *testing.T) {
	n, want := network(t, chain), network(t, chain)
	lanes := []int{1, 99, 99}
	n.Next[0] = lanes[:1]
	shut := slices.Repeat([]bool{true}, 20)
	clear(shut[:12])
	kept := slices.Clone(shut)
	for range 2 {
		checkModel(t, n, shut[:12])
		checkCarriesError(t, n, shut[:12], -1, api.ErrRange)
		checkAllowedError(t, n, shut[:12], 0, -1, api.ErrRange)
		checkAllowedError(t, n, shut[:12], 3, 0, api.ErrRange)
	}
	if !reflect.DeepEqual(n, want) || !slices.Equal(lanes, []int{1, 99, 99}) || !slices.Equal(shut, kept) {
		t.Errorf("the arguments were changed to %+v, %v, %v", n, lanes, shut)
	}
}
