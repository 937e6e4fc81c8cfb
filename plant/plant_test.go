package plant_test

import (
	"fmt"
	"math"
	"math/rand/v2"
	"slices"
	"strings"
	"testing"

	"blockway/api"
	"blockway/cells"
	"blockway/loader"
	"blockway/plant"
)

// small has the cells a 0, b 1, c 2, d/1 3, d/2 4, s/1 5, e/1 6, e/2 7 and e/3 8.
const small = "block a 0 0;block b 1 0;block c 0 1;lane a b c a;lane b a;depot d a b 2;station s c c 1;depot e b a 3;robot d 2"

// followers has the cells that follow each cell of small.
var followers = [][]int{{1, 3}, {0, 2, 6}, {0, 5}, {4}, {1}, {2}, {7}, {8}, {0}}

// far has numbers of which the lowest bits would be those of a robot or a cell.
var far = []int{math.MinInt, math.MinInt + 1, -1 << 32, -256, 256, 1 << 32, math.MaxInt - 255, math.MaxInt}

// network returns the network of a layout without errors; semicolons end lines.
func network(t *testing.T, text string) api.Net {
	t.Helper()
	n, _, line, e := loader.Load(strings.ReplaceAll(text, ";", "\n"))
	if e != api.OK {
		t.Fatalf("Load(%q) has the error %d in line %d", text, e, line)
	}
	return n
}

func rest(cell int) api.Body {
	return api.Body{Cell: cell, To: -1}
}

// action is one of the functions that change a robot, with its other arguments.
type action struct {
	name string
	do   func(b []api.Body, robot int) ([]api.Body, api.Errno)
}

func put(cell int) action {
	return action{fmt.Sprint("Put into ", cell), func(b []api.Body, robot int) ([]api.Body, api.Errno) { return plant.Put(b, robot, cell) }}
}

func begin(n api.Net, to int) action {
	return action{fmt.Sprint("Begin to ", to), func(b []api.Body, robot int) ([]api.Body, api.Errno) { return plant.Begin(n, b, robot, to) }}
}

var (
	end    = action{"End", plant.End}
	work   = action{"Work", plant.Work}
	finish = action{"Finish", plant.Finish}
	fault  = action{"Fault", plant.Fault}
	lift   = action{"Lift", plant.Lift}
)

// actions returns each action once; those with arguments have some that are in range.
func actions(n api.Net) []action {
	return []action{put(0), put(7), begin(n, 1), begin(n, 5), end, work, finish, fault, lift}
}

// others stand beside the robot that acts; two of them have states in which they could do nothing.
var others = []api.Body{{Cell: 8, To: 0, Faulted: true}, rest(-1), rest(1), rest(1)}

// check does an action with x among other robots, first, in between and last, and checks that all others stay as they are. With an error want is not read.
func check(t *testing.T, a action, x, want api.Body, wantE api.Errno) {
	t.Helper()
	for robot := range len(others) + 1 {
		b := slices.Insert(slices.Clone(others), robot, x)
		before := slices.Clone(b)
		wantAll := slices.Insert(slices.Clone(others), robot, want)
		if wantE != api.OK {
			wantAll = nil
		}
		got, e := a.do(b, robot)
		if e != wantE || !slices.Equal(got, wantAll) {
			t.Errorf("%s of robot %d of %+v = %+v, %d, want %+v, %d", a.name, robot, before, got, e, wantAll, wantE)
		}
		if !slices.Equal(b, before) {
			t.Errorf("%s of robot %d changed its argument from %+v to %+v", a.name, robot, before, b)
		}
	}
}

func checkDone(t *testing.T, a action, x, want api.Body) {
	t.Helper()
	check(t, a, x, want, api.OK)
}

func checkError(t *testing.T, a action, x api.Body, want api.Errno) {
	t.Helper()
	check(t, a, x, api.Body{}, want)
}

// P16.1: into every cell there can be, also one that another robot has; whatever was left of an earlier stay is gone.
func TestPut(t *testing.T) {
	for cell := range api.MaxCells {
		checkDone(t, put(cell), rest(-1), rest(cell))
	}
	checkDone(t, put(3), api.Body{Cell: -1, To: 7}, rest(3))
	checkDone(t, put(3), api.Body{Cell: -1, To: -1, Serving: true}, rest(3))
	checkDone(t, put(3), api.Body{Cell: -1, To: -1, Faulted: true}, rest(3))
	checkDone(t, put(3), api.Body{Cell: -1, To: 7, Serving: true, Faulted: true}, rest(3))
	for _, x := range []api.Body{rest(3), rest(4), {Cell: 3, To: 4}, {Cell: 3, To: -1, Serving: true}, {Cell: 3, To: -1, Faulted: true}} {
		checkError(t, put(3), x, api.ErrIllegal)
	}
}

// P16.1: between all cells, also of robots that are put into cells that the network does not have.
func TestBegin(t *testing.T) {
	n := network(t, small)
	for cell := range api.MaxCells {
		for to := range api.MaxCells {
			if cell < len(followers) && slices.Contains(followers[cell], to) {
				checkDone(t, begin(n, to), rest(cell), api.Body{Cell: cell, To: to})
			} else {
				checkError(t, begin(n, to), rest(cell), api.ErrIllegal)
			}
		}
	}
}

// P16.1: only a robot at rest begins a transit, and only in a network that is valid.
func TestBeginIllegal(t *testing.T) {
	n := network(t, small)
	for _, x := range []api.Body{
		rest(-1), {Cell: -1, To: 0}, {Cell: 0, To: 1}, {Cell: 0, To: 3}, {Cell: 0, To: 0},
		{Cell: 0, To: -1, Serving: true}, {Cell: 0, To: -1, Faulted: true}, {Cell: 0, To: -1, Serving: true, Faulted: true},
		rest(-2), rest(9), rest(48), rest(math.MinInt), rest(math.MaxInt),
	} {
		checkError(t, begin(n, 1), x, api.ErrIllegal)
	}
	checkError(t, begin(api.Net{}, 1), rest(0), api.ErrIllegal)
	n.Spurs[0].Base++
	checkError(t, begin(n, 1), rest(0), api.ErrIllegal)
}

// P16.1: only Cell and To change; no condition is named for the To of a body, nor for a service that goes on in a transit.
func TestEnd(t *testing.T) {
	checkDone(t, end, api.Body{Cell: 0, To: 1}, rest(1))
	checkDone(t, end, api.Body{Cell: 1, To: 0}, rest(0))
	checkDone(t, end, api.Body{Cell: 4, To: 4}, rest(4))
	checkDone(t, end, api.Body{Cell: 0, To: 47}, rest(47))
	checkDone(t, end, api.Body{Cell: 0, To: 48}, rest(48))
	checkDone(t, end, api.Body{Cell: 0, To: -2}, rest(-2))
	checkDone(t, end, api.Body{Cell: 0, To: 1, Serving: true}, api.Body{Cell: 1, To: -1, Serving: true})
	for _, x := range []api.Body{
		rest(0), rest(-1), {Cell: -1, To: 1}, {Cell: 0, To: 1, Faulted: true}, {Cell: 0, To: 1, Serving: true, Faulted: true},
		{Cell: 0, To: -1, Serving: true}, {Cell: 0, To: -1, Faulted: true},
	} {
		checkError(t, end, x, api.ErrIllegal)
	}
}

// P16.2: only a robot at rest begins a service.
func TestWork(t *testing.T) {
	for _, cell := range []int{0, 5, 47, 48, -2} {
		checkDone(t, work, rest(cell), api.Body{Cell: cell, To: -1, Serving: true})
	}
	for _, x := range []api.Body{
		rest(-1), {Cell: -1, To: 5}, {Cell: 5, To: 2}, {Cell: 5, To: -1, Serving: true}, {Cell: 5, To: -1, Faulted: true},
		{Cell: 5, To: -1, Serving: true, Faulted: true}, {Cell: 5, To: 2, Serving: true},
	} {
		checkError(t, work, x, api.ErrIllegal)
	}
}

// P16.2: a service ends once, and not after a fault.
func TestFinish(t *testing.T) {
	checkDone(t, finish, api.Body{Cell: 5, To: -1, Serving: true}, rest(5))
	checkDone(t, finish, api.Body{Cell: 0, To: -1, Serving: true}, rest(0))
	checkDone(t, finish, api.Body{Cell: 5, To: 2, Serving: true}, api.Body{Cell: 5, To: 2})
	for _, x := range []api.Body{
		rest(5), rest(-1), {Cell: -1, To: -1, Serving: true}, {Cell: -1, To: 5, Serving: true}, {Cell: 5, To: 2},
		{Cell: 5, To: -1, Serving: true, Faulted: true}, {Cell: 5, To: 2, Serving: true, Faulted: true}, {Cell: 5, To: -1, Faulted: true},
	} {
		checkError(t, finish, x, api.ErrIllegal)
	}
}

// P16.2: a faulted robot stays where it is, in its transit or service.
func TestFault(t *testing.T) {
	for _, x := range []api.Body{rest(0), rest(48), rest(-2), {Cell: 0, To: 1}, {Cell: 5, To: -1, Serving: true}, {Cell: 5, To: 2, Serving: true}} {
		faulted := x
		faulted.Faulted = true
		checkDone(t, fault, x, faulted)
		checkDone(t, fault, faulted, faulted)
	}
	for _, x := range []api.Body{rest(-1), {Cell: -1, To: 1}, {Cell: -1, To: -1, Serving: true}, {Cell: -1, To: -1, Faulted: true}} {
		checkError(t, fault, x, api.ErrIllegal)
	}
}

// P16.2: a robot in a transit or a service is lifted only if it is faulted.
func TestLift(t *testing.T) {
	for _, x := range []api.Body{rest(0), rest(8), rest(48), rest(-2)} {
		checkDone(t, lift, x, rest(-1))
	}
	for _, x := range []api.Body{{Cell: 0, To: -1}, {Cell: 0, To: 1}, {Cell: 5, To: -1, Serving: true}, {Cell: 5, To: 2, Serving: true}} {
		faulted := x
		faulted.Faulted = true
		checkDone(t, lift, faulted, rest(-1))
		if x != rest(0) {
			checkError(t, lift, x, api.ErrIllegal)
		}
	}
	for _, x := range []api.Body{rest(-1), {Cell: -1, To: 1}, {Cell: -1, To: -1, Serving: true}, {Cell: -1, To: -1, Faulted: true}} {
		checkError(t, lift, x, api.ErrIllegal)
	}
}

// P16.1, P16.2: a robot that is not one of the list, also where the memory of the list goes on behind its end.
func TestRobotRange(t *testing.T) {
	whole := []api.Body{rest(0), {Cell: 0, To: 1}, {Cell: 5, To: -1, Serving: true}, rest(-1), rest(0), rest(-1), {Cell: 0, To: 1}, rest(0), rest(0), rest(0)}
	for length := range len(whole) {
		for _, robot := range append([]int{-2, -1, length, length + 1, api.MaxRobots + 2}, far...) {
			for _, a := range actions(network(t, small)) {
				if got, e := a.do(whole[:length], robot); e != api.ErrRange || len(got) != 0 {
					t.Errorf("%s of robot %d of %d = %v, %d, want none, %d", a.name, robot, length, got, e, api.ErrRange)
				}
			}
		}
	}
	for _, a := range actions(network(t, small)) {
		if got, e := a.do(nil, 0); e != api.ErrRange || len(got) != 0 {
			t.Errorf("%s without robots = %v, %d, want none, %d", a.name, got, e, api.ErrRange)
		}
	}
}

// P16.1: a cell out of range comes before a robot that can not act and before a network that is not valid.
func TestCellRange(t *testing.T) {
	n := network(t, small)
	for _, cell := range append([]int{-2, -1, api.MaxCells, api.MaxCells + 1}, far...) {
		for _, x := range []api.Body{rest(-1), rest(0), {Cell: 0, To: 1}, {Cell: 0, To: cell}, {Cell: 5, To: -1, Serving: true}, {Cell: 0, To: -1, Faulted: true}} {
			checkError(t, put(cell), x, api.ErrRange)
			checkError(t, begin(n, cell), x, api.ErrRange)
			checkError(t, begin(api.Net{}, cell), x, api.ErrRange)
		}
	}
}

// P16.1: the last slot of a network that has as many cells as there can be.
func TestLastCell(t *testing.T) {
	text := strings.Builder{}
	for i := range api.MaxBlocks {
		fmt.Fprintf(&text, "block b%d 0 0;", i)
	}
	for i := range api.MaxBlocks {
		fmt.Fprintf(&text, "lane b%d b%d;", i, (i+1)%api.MaxBlocks)
	}
	for i := range api.MaxSpurs {
		fmt.Fprintf(&text, "depot d%d b3 b5 4;", i)
	}
	n := network(t, text.String())
	checkDone(t, begin(n, 47), rest(46), api.Body{Cell: 46, To: 47})
	checkDone(t, begin(n, 5), rest(47), api.Body{Cell: 47, To: 5})
	checkDone(t, begin(n, 44), rest(3), api.Body{Cell: 3, To: 44})
	checkError(t, begin(n, 47), rest(3), api.ErrIllegal)
}

// P16.1, P16.2: more robots than a run has, which the chapter does not rule out.
func TestManyRobots(t *testing.T) {
	b := slices.Repeat([]api.Body{rest(0), rest(1)}, 50000)
	b[99999] = api.Body{Cell: 1, To: 2}
	got, e := plant.End(b, 99999)
	if e != api.OK || len(got) != len(b) || !slices.Equal(got[:99999], b[:99999]) || got[99999] != rest(2) {
		t.Errorf("End of the last one of many robots = %d robots, %d", len(got), e)
	}
}

// P16.1, P16.2: R2: results share no memory with the argument or its spare capacity.
func TestNewMemory(t *testing.T) {
	n := network(t, small)
	states := []api.Body{rest(-1), rest(0), rest(2), {Cell: 0, To: 1}, {Cell: 5, To: -1, Serving: true}, {Cell: 5, To: 2, Faulted: true}}
	done := map[string]int{}
	for _, a := range actions(n) {
		for _, x := range states {
			whole := []api.Body{rest(1), x, rest(3), rest(4)}
			before := slices.Clone(whole)
			got, e := a.do(whole[:2], 1)
			if e != api.OK {
				continue
			}
			done[a.name]++
			again, _ := a.do(whole[:2], 1)
			kept := slices.Clone(again)
			clear(got[:cap(got)])
			if !slices.Equal(whole, before) || !slices.Equal(again, kept) {
				t.Errorf("a change of a result of %s changed its argument to %v, or the other result to %v", a.name, whole, again)
			}
			clear(whole)
			if !slices.Equal(again, kept) {
				t.Errorf("a change of the argument of %s changed its result to %v", a.name, again)
			}
		}
	}
	if len(done) != len(actions(n)) {
		t.Errorf("only %v had results", done)
	}
}

// checkFootprint checks Footprint, and that its results share no memory.
func checkFootprint(t *testing.T, x api.Body, want ...int) {
	t.Helper()
	got, other := plant.Footprint(x), plant.Footprint(x)
	if !slices.Equal(got, want) {
		t.Errorf("Footprint(%+v) = %v, want %v", x, got, want)
	}
	clear(got[:cap(got)])
	if !slices.Equal(other, want) {
		t.Errorf("a change of one footprint of %+v changed the other one to %v", x, other)
	}
}

// P16.3: ascending cells, each once, in all four states of a service and a fault. The first line is the chapter's example.
func TestFootprint(t *testing.T) {
	for state := range 4 {
		body := func(cell, to int) api.Body {
			return api.Body{Cell: cell, To: to, Serving: state&1 > 0, Faulted: state&2 > 0}
		}
		checkFootprint(t, body(0, 1), 0, 1)
		checkFootprint(t, body(1, 0), 0, 1)
		checkFootprint(t, body(5, 2), 2, 5)
		checkFootprint(t, body(47, 46), 46, 47)
		checkFootprint(t, body(0, -1), 0)
		checkFootprint(t, body(47, -1), 47)
		checkFootprint(t, body(0, 0), 0)
		checkFootprint(t, body(4, 4), 4)
		checkFootprint(t, body(-1, -1))
		checkFootprint(t, body(-1, 0))
		checkFootprint(t, body(-1, 4))
		// These are no cells, but only -1 has a meaning of its own.
		checkFootprint(t, body(-2, -1), -2)
		checkFootprint(t, body(3, -2), -2, 3)
		checkFootprint(t, body(math.MaxInt, math.MinInt), math.MinInt, math.MaxInt)
	}
}

func checkClash(t *testing.T, b []api.Body, wantOne, wantOther int, want bool) {
	t.Helper()
	before := slices.Clone(b)
	if one, other, ok := plant.Clash(b); ok != want || one != wantOne || other != wantOther {
		t.Errorf("Clash(%+v) = %d, %d, %v, want %d, %d, %v", before, one, other, ok, wantOne, wantOther, want)
	}
	if !slices.Equal(b, before) {
		t.Errorf("Clash changed its argument from %+v to %+v", before, b)
	}
}

// P16.3: robots that have no cell in common.
func TestNoClash(t *testing.T) {
	for _, b := range [][]api.Body{
		nil, {}, {rest(0)}, {{Cell: 0, To: 0}}, {{Cell: 0, To: 1}}, {rest(0), rest(1)}, {{Cell: 0, To: 1}, {Cell: 2, To: 3}, rest(4)},
		{rest(-1), rest(-1)}, {rest(-1), {Cell: -1, To: 0}, {Cell: -1, To: 0}, rest(0)}, {rest(0), {Cell: -1, To: 0}},
		{rest(-2), rest(-3), rest(48)},
	} {
		checkClash(t, b, 0, 0, false)
	}
}

// P16.3: the smaller first robot comes first, then the smaller second one. The first line is the chapter's example.
func TestClash(t *testing.T) {
	checkClash(t, []api.Body{{Cell: 0, To: 1}, rest(1)}, 0, 1, true)
	checkClash(t, []api.Body{rest(1), {Cell: 0, To: 1}}, 0, 1, true)
	checkClash(t, []api.Body{{Cell: 0, To: 1}, rest(0)}, 0, 1, true)
	checkClash(t, []api.Body{rest(0), rest(0)}, 0, 1, true)
	checkClash(t, []api.Body{{Cell: 0, To: 1}, {Cell: 2, To: 1}}, 0, 1, true)
	checkClash(t, []api.Body{{Cell: 0, To: 1}, {Cell: 1, To: 0}}, 0, 1, true)
	checkClash(t, []api.Body{rest(-1), rest(3), rest(-1), rest(3)}, 1, 3, true)
	checkClash(t, []api.Body{rest(3), rest(3), rest(3)}, 0, 1, true)
	// A later pair with a smaller first robot.
	checkClash(t, []api.Body{rest(0), rest(1), rest(1), rest(0)}, 0, 3, true)
	checkClash(t, []api.Body{rest(7), rest(0), rest(1), rest(1), rest(0)}, 1, 4, true)
	checkClash(t, []api.Body{rest(0), rest(1), rest(1), rest(1), {Cell: 5, To: 0}}, 0, 4, true)
	// One first robot with two others, through the greater cell with the earlier one and the other way round.
	checkClash(t, []api.Body{{Cell: 2, To: 5}, rest(5), rest(2)}, 0, 1, true)
	checkClash(t, []api.Body{{Cell: 5, To: 2}, rest(2), rest(5)}, 0, 1, true)
	// One second robot with two first ones.
	checkClash(t, []api.Body{rest(6), rest(5), rest(2), {Cell: 2, To: 5}}, 1, 3, true)
	checkClash(t, []api.Body{rest(6), rest(5), rest(2), {Cell: 5, To: 2}}, 1, 3, true)
	// Services and faults do not matter.
	checkClash(t, []api.Body{{Cell: 5, To: -1, Serving: true}, {Cell: 2, To: 5, Faulted: true}}, 0, 1, true)
	checkClash(t, []api.Body{{Cell: 0, To: 1, Faulted: true}, {Cell: 5, To: 1, Faulted: true}}, 0, 1, true)
	checkClash(t, []api.Body{rest(-2), rest(-2)}, 0, 1, true)
	checkClash(t, []api.Body{{Cell: 0, To: 48}, rest(48)}, 0, 1, true)
}

// meet reports whether two bodies have a cell in common, by the definition of a footprint.
func meet(x, y api.Body) bool {
	in := func(z api.Body, cell int) bool {
		return cell != -1 && z.Cell != -1 && (z.Cell == cell || z.To == cell)
	}
	return in(x, y.Cell) || y.Cell != -1 && in(x, y.To)
}

// firstPair returns the first two bodies that meet, by a look at all pairs in order.
func firstPair(b []api.Body) (int, int, bool) {
	for i := range b {
		for k := i + 1; k < len(b); k++ {
			if meet(b[i], b[k]) {
				return i, k, true
			}
		}
	}
	return 0, 0, false
}

// P16.3: random lists, of few and of many cells (fixed seed).
func TestClashOfManyLists(t *testing.T) {
	random := rand.New(rand.NewPCG(16, 3))
	clashes := 0
	for range 20000 {
		b := make([]api.Body, random.IntN(api.MaxRobots+1))
		count := 1 + random.IntN(api.MaxCells)
		for i := range b {
			b[i] = api.Body{Cell: random.IntN(count+1) - 1, To: random.IntN(count+1) - 1, Serving: random.IntN(2) > 0, Faulted: random.IntN(2) > 0}
			if random.IntN(3) > 0 {
				b[i].To = -1
			}
		}
		one, other, ok := firstPair(b)
		checkClash(t, b, one, other, ok)
		if ok {
			clashes++
		}
	}
	if clashes < 5000 || clashes > 18000 {
		t.Errorf("%d of 20000 lists clash: the test says little", clashes)
	}
}

// P16.3: R1: long lists do not keep the program waiting.
func TestClashOfLongLists(t *testing.T) {
	b := make([]api.Body, 500000)
	for i := range b {
		b[i] = api.Body{Cell: 2*i + 100, To: 2*i + 101}
	}
	if one, other, ok := plant.Clash(b); ok || one != 0 || other != 0 {
		t.Errorf("Clash of many robots = %d, %d, %v, want 0, 0, false", one, other, ok)
	}
	b[499999] = rest(2*250000 + 101)
	if one, other, ok := plant.Clash(b); !ok || one != 250000 || other != 499999 {
		t.Errorf("Clash of many robots = %d, %d, %v, want 250000, 499999, true", one, other, ok)
	}
	if _, _, ok := plant.Clash(slices.Repeat([]api.Body{rest(-1)}, 500000)); ok {
		t.Errorf("many robots that are not on the floor clash")
	}
}

// expect returns what the definitions say of an action with a body, by its state as a word: the new body, and whether there is one.
func expect(name string, x api.Body, to int, follows bool) (api.Body, bool) {
	state := "moving"
	switch {
	case x.Cell == -1:
		state = "off"
	case x.To == -1 && !x.Serving && !x.Faulted:
		state = "resting"
	case x.To == -1:
		state = "standing"
	}
	switch name {
	case "Put":
		return api.Body{Cell: to, To: -1}, state == "off"
	case "Begin":
		return api.Body{Cell: x.Cell, To: to}, state == "resting" && follows
	case "End":
		return api.Body{Cell: x.To, To: -1, Serving: x.Serving}, state == "moving" && !x.Faulted
	case "Work":
		return api.Body{Cell: x.Cell, To: -1, Serving: true}, state == "resting"
	case "Finish":
		return api.Body{Cell: x.Cell, To: x.To}, state != "off" && x.Serving && !x.Faulted
	case "Fault":
		return api.Body{Cell: x.Cell, To: x.To, Serving: x.Serving, Faulted: true}, state != "off"
	}
	return api.Body{Cell: -1, To: -1}, state == "resting" || state != "off" && x.Faulted
}

// P16.1, P16.2: all actions with all states of a robot, in cells of the network, beside it and out of range.
func TestAllStates(t *testing.T) {
	n := network(t, small)
	places := []int{math.MinInt, -2, -1, 0, 1, 2, 5, 8, 9, 47, 48, math.MaxInt}
	for _, cell := range places {
		for _, to := range places {
			for state := range 4 {
				x := api.Body{Cell: cell, To: to, Serving: state&1 > 0, Faulted: state&2 > 0}
				for _, a := range []action{end, work, finish, fault, lift} {
					checkExpected(t, a, a.name, x, 0, false)
				}
				for target := range api.MaxCells {
					follows := cell >= 0 && cell < len(followers) && slices.Contains(followers[cell], target)
					checkExpected(t, put(target), "Put", x, target, false)
					checkExpected(t, begin(n, target), "Begin", x, target, follows)
				}
			}
		}
	}
}

func checkExpected(t *testing.T, a action, name string, x api.Body, to int, follows bool) {
	t.Helper()
	want, ok := expect(name, x, to, follows)
	if !ok {
		checkError(t, a, x, api.ErrIllegal)
		return
	}
	checkDone(t, a, x, want)
}

// randomAction returns an action that is possible every now and then.
func randomAction(random *rand.Rand, n api.Net) action {
	cell := random.IntN(len(followers))
	list := []action{put(cell), work, finish, fault, lift}
	// A transit takes two actions, of which few begin to a cell that follows.
	switch choice := random.IntN(20); {
	case choice < len(list):
		return list[choice]
	case choice < 10:
		return end
	}
	return begin(n, cell)
}

// P16.1, P16.2: in all runs, a faulted robot stays where it is until it is lifted, and every transit follows the cells (fixed seed).
func TestConsequence(t *testing.T) {
	n := network(t, small)
	random := rand.New(rand.NewPCG(16, 1))
	transits := 0
	for range 500 {
		b := slices.Repeat([]api.Body{rest(-1)}, api.MaxRobots)
		for range 400 {
			robot, a := random.IntN(len(b)), randomAction(random, n)
			next, e := a.do(b, robot)
			if e != api.OK {
				continue
			}
			x, y := b[robot], next[robot]
			if x.Faulted && y != x && y != rest(-1) {
				t.Fatalf("%s of the faulted robot %+v makes it %+v", a.name, x, y)
			}
			if y.To != -1 && !cells.Follows(n, y.Cell, y.To) {
				t.Fatalf("%s of %+v makes it %+v, which does not follow the cells", a.name, x, y)
			}
			if x.Cell != -1 && y.Cell != -1 && x.Cell != y.Cell {
				transits++
				if x.To != y.Cell {
					t.Fatalf("%s of %+v makes it %+v: it jumps", a.name, x, y)
				}
			}
			b = next
		}
	}
	if transits < 1000 {
		t.Errorf("only %d transits ended: the runs say little", transits)
	}
}
