package girth_test

import (
	"fmt"
	"math"
	"math/rand/v2"
	"slices"
	"testing"

	"blockway/api"
	"blockway/girth"
)

// sameGraph treats nil and empty lists alike.
func sameGraph(a, b [][]int) bool {
	return slices.EqualFunc(a, b, slices.Equal)
}

// short keeps the messages of tests with long arguments readable.
func short(x any) string {
	return fmt.Sprintf("%.400s", fmt.Sprintf("%v", x))
}

func checkGirth(t *testing.T, next [][]int, shut []bool, want []int) {
	t.Helper()
	n, walk, e := girth.Girth(next, shut)
	if e != api.OK || n != len(want) || !slices.Equal(walk, want) {
		t.Errorf("Girth(%s, %v) = %d, %v, %d, want %d, %v, 0", short(next), shut, n, walk, e, len(want), want)
	}
}

func checkThrough(t *testing.T, next [][]int, shut []bool, v int, want []int) {
	t.Helper()
	n, walk, e := girth.Through(next, shut, v)
	if e != api.OK || n != len(want) || !slices.Equal(walk, want) {
		t.Errorf("Through(%s, %v, %d) = %d, %v, %d, want %d, %v, 0", short(next), shut, v, n, walk, e, len(want), want)
	}
}

func checkClosed(t *testing.T, next [][]int, shut []bool, walk []int, want bool) {
	t.Helper()
	if got := girth.Closed(next, shut, walk); got != want {
		t.Errorf("Closed(%s, %v, %s) is %v", short(next), short(shut), short(walk), got)
	}
}

func checkThroughError(t *testing.T, next [][]int, shut []bool, v int, want api.Errno) {
	t.Helper()
	n, walk, e := girth.Through(next, shut, v)
	if e != want || n != 0 || len(walk) != 0 {
		t.Errorf("Through(%s, %s, %d) = %d, %v, %d, want 0, none, %d", short(next), short(shut), v, n, walk, e, want)
	}
}

// checkErrors checks a graph or shut vertices that are refused whatever the other arguments are.
func checkErrors(t *testing.T, next [][]int, shut []bool, want api.Errno) {
	t.Helper()
	n, walk, e := girth.Girth(next, shut)
	if e != want || n != 0 || len(walk) != 0 {
		t.Errorf("Girth(%s, %s) = %d, %v, %d, want 0, none, %d", short(next), short(shut), n, walk, e, want)
	}
	for _, v := range []int{0, 1, -1, len(next), math.MaxInt, math.MinInt} {
		checkThroughError(t, next, shut, v, want)
	}
	for _, walk := range [][]int{nil, {0}, {0, 1}, {0, 1, 2}, {-1}, {math.MaxInt, math.MinInt}} {
		checkClosed(t, next, shut, walk, false)
	}
}

// circle is the graph in which each of n vertices leads to the next one, and the last one to the first one.
func circle(n int) [][]int {
	next := make([][]int, n)
	for v := range next {
		next[v] = []int{(v + 1) % n}
	}
	return next
}

// complete is the graph with all edges of n vertices, upward the one with those that lead to later vertices.
func complete(n int) [][]int {
	next := make([][]int, n)
	for v := range next {
		for to := range n {
			if to != v {
				next[v] = append(next[v], to)
			}
		}
	}
	return next
}

func upward(n int) [][]int {
	next := complete(n)
	for v := range next {
		next[v] = next[v][v:]
	}
	return next
}

// numbers returns the numbers from first up to and without end.
func numbers(first, end int) []int {
	var list []int
	for v := first; v < end; v++ {
		list = append(list, v)
	}
	return list
}

// shutOnes returns n elements, of which these are true.
func shutOnes(n int, ones ...int) []bool {
	shut := make([]bool, n)
	for _, v := range ones {
		shut[v] = true
	}
	return shut
}

// example is a graph with its shortest closed walks.
type example struct {
	next    [][]int
	shut    []int
	girth   []int
	through [][]int
}

func examples() []example {
	chapter := [][]int{{1}, {0, 2}, {0}}
	two := [][]int{{2}, {3}, {4}, {4}, {0, 1}}                  // 0 and 1 each on a circle of three with 4
	ladder := [][]int{{1, 2}, {3, 4}, {3, 4}, {5}, {5}, {0}}    // four walks from 0 over 5, all of length four
	late := [][]int{{2, 4}, {3}, {3}, {5}, {5}, {0}}            // 1 leads into walks, but is on none
	eight := [][]int{{1}, {2, 4}, {3}, {0}, {5}, {1}, {7}, {6}} // circles of four and three that share 1, and one of two
	far := [][]int{{1}, {2}, {3}, {0, 4}, {5}, {3}}             // 0 is on a longer circle than the last vertices
	tail := [][]int{{1}, {2}, {1}}                              // 0 leads to a circle without it
	least := [][]int{{1, 3}, {2}, {0}, {4}, {5}, {6}, {0}}      // the least next vertex is on the shortest walk
	detour := [][]int{{1, 2}, {3}, {0}, {4}, {0}}               // the least next vertex is not
	twins := [][]int{{3}, {4}, {5}, {0, 1}, {1, 2}, {0, 2}}     // three circles of two
	return []example{
		{chapter, nil, []int{0, 1}, [][]int{{0, 1}, {1, 0}, {2, 0, 1}}},
		{chapter, []int{0}, nil, [][]int{nil, nil, nil}},
		{chapter, []int{1}, nil, [][]int{nil, nil, nil}},
		{chapter, []int{2}, []int{0, 1}, [][]int{{0, 1}, {1, 0}, nil}},
		{nil, nil, nil, nil},
		{[][]int{}, nil, nil, nil},
		{[][]int{nil}, nil, nil, [][]int{nil}},
		{[][]int{{}}, []int{0}, nil, [][]int{nil}},
		{[][]int{{1}, {}}, nil, nil, [][]int{nil, nil}},
		{[][]int{{1}, {0}}, nil, []int{0, 1}, [][]int{{0, 1}, {1, 0}}},
		{[][]int{{1}, {0}}, []int{0}, nil, [][]int{nil, nil}},
		{circle(3), nil, []int{0, 1, 2}, [][]int{{0, 1, 2}, {1, 2, 0}, {2, 0, 1}}},
		{circle(3), []int{2}, nil, [][]int{nil, nil, nil}},
		{two, nil, []int{0, 2, 4}, [][]int{{0, 2, 4}, {1, 3, 4}, {2, 4, 0}, {3, 4, 1}, {4, 0, 2}}},
		{two, []int{2}, []int{1, 3, 4}, [][]int{nil, {1, 3, 4}, nil, {3, 4, 1}, {4, 1, 3}}},
		{ladder, nil, []int{0, 1, 3, 5}, [][]int{{0, 1, 3, 5}, {1, 3, 5, 0}, {2, 3, 5, 0}, {3, 5, 0, 1}, {4, 5, 0, 1}, {5, 0, 1, 3}}},
		{ladder, []int{1}, []int{0, 2, 3, 5}, [][]int{{0, 2, 3, 5}, nil, {2, 3, 5, 0}, {3, 5, 0, 2}, {4, 5, 0, 2}, {5, 0, 2, 3}}},
		{ladder, []int{3}, []int{0, 1, 4, 5}, [][]int{{0, 1, 4, 5}, {1, 4, 5, 0}, {2, 4, 5, 0}, nil, {4, 5, 0, 1}, {5, 0, 1, 4}}},
		{ladder, []int{1, 2}, nil, make([][]int, 6)},
		{late, nil, []int{0, 4, 5}, [][]int{{0, 4, 5}, nil, {2, 3, 5, 0}, {3, 5, 0, 2}, {4, 5, 0}, {5, 0, 4}}},
		{late, []int{4}, []int{0, 2, 3, 5}, [][]int{{0, 2, 3, 5}, nil, {2, 3, 5, 0}, {3, 5, 0, 2}, nil, {5, 0, 2, 3}}},
		{eight, nil, []int{6, 7}, [][]int{{0, 1, 2, 3}, {1, 4, 5}, {2, 3, 0, 1}, {3, 0, 1, 2}, {4, 5, 1}, {5, 1, 4}, {6, 7}, {7, 6}}},
		{eight, []int{6}, []int{1, 4, 5}, [][]int{{0, 1, 2, 3}, {1, 4, 5}, {2, 3, 0, 1}, {3, 0, 1, 2}, {4, 5, 1}, {5, 1, 4}, nil, nil}},
		{eight, []int{5, 7}, []int{0, 1, 2, 3}, [][]int{{0, 1, 2, 3}, {1, 2, 3, 0}, {2, 3, 0, 1}, {3, 0, 1, 2}, nil, nil, nil, nil}},
		{far, nil, []int{3, 4, 5}, [][]int{{0, 1, 2, 3}, {1, 2, 3, 0}, {2, 3, 0, 1}, {3, 4, 5}, {4, 5, 3}, {5, 3, 4}}},
		{tail, nil, []int{1, 2}, [][]int{nil, {1, 2}, {2, 1}}},
		{least, nil, []int{0, 1, 2}, [][]int{{0, 1, 2}, {1, 2, 0}, {2, 0, 1}, {3, 4, 5, 6, 0}, {4, 5, 6, 0, 3}, {5, 6, 0, 3, 4}, {6, 0, 3, 4, 5}}},
		{detour, nil, []int{0, 2}, [][]int{{0, 2}, {1, 3, 4, 0}, {2, 0}, {3, 4, 0, 1}, {4, 0, 1, 3}}},
		{twins, nil, []int{0, 3}, [][]int{{0, 3}, {1, 4}, {2, 5}, {3, 0}, {4, 1}, {5, 2}}},
		{twins, []int{0}, []int{1, 4}, [][]int{nil, {1, 4}, {2, 5}, nil, {4, 1}, {5, 2}}},
		{twins, []int{0, 4}, []int{2, 5}, [][]int{nil, nil, {2, 5}, nil, nil, {5, 2}}},
	}
}

// P6.2: the first shortest closed walk of a graph.
func TestGirth(t *testing.T) {
	for _, c := range examples() {
		checkGirth(t, c.next, shutOnes(len(c.next), c.shut...), c.girth)
	}
}

// P6.2: the first shortest closed walk that begins with a vertex, also with one that is shut or on no closed walk.
func TestThrough(t *testing.T) {
	for _, c := range examples() {
		for v, want := range c.through {
			checkThrough(t, c.next, shutOnes(len(c.next), c.shut...), v, want)
		}
	}
}

// P6.1: the shortest closed walks are closed, and they are not with a vertex on them shut or with another end.
func TestClosedExamples(t *testing.T) {
	for _, c := range examples() {
		shut := shutOnes(len(c.next), c.shut...)
		for _, walk := range append(c.through, c.girth) {
			checkClosed(t, c.next, shut, walk, len(walk) > 0)
			for i, v := range walk {
				checkClosed(t, c.next, shutOnes(len(c.next), append(c.shut, v)...), walk, false)
				checkClosed(t, c.next, shut, walk[:i], false)
			}
		}
	}
}

// P6.1: walks that are closed though they are not short, and ones that are not closed.
func TestClosed(t *testing.T) {
	next, open := [][]int{{1}, {0, 2}, {0}}, make([]bool, 3)
	for _, walk := range [][]int{{0, 1}, {1, 0}, {2, 0, 1}, {0, 1, 2}, {0, 1, 0, 1}, {0, 1, 0, 1, 2}, {1, 0, 1, 2, 0, 1, 2, 0}} {
		checkClosed(t, next, open, walk, true)
	}
	for _, walk := range [][]int{
		nil, {}, {0}, {1}, {2}, {0, 0}, {1, 1}, {0, 2}, {2, 0}, {1, 2}, {0, 1, 1}, {0, 1, 0}, {0, 2, 1}, {2, 1, 0}, {0, 1, 2, 1},
		{3}, {-1}, {0, 1, 3}, {3, 0, 1}, {0, 3, 1}, {0, 1, -1}, {-1, 0, 1}, {0, -1}, {-1, 1}, {3, 3}, {-1, -1},
		{api.MaxBlocks, 0}, {0, api.MaxBlocks}, {math.MaxInt}, {math.MinInt}, {math.MaxInt, 0}, {0, math.MinInt},
		{1 << 32, 1}, {0, 1<<32 + 1},
	} {
		checkClosed(t, next, open, walk, false)
	}
	checkClosed(t, next, []bool{false, false, true}, []int{0, 1, 0, 1}, true)
	checkClosed(t, next, []bool{false, false, true}, []int{0, 1, 2}, false)
	checkClosed(t, next, []bool{true, true, true}, []int{0, 1}, false)
	checkClosed(t, nil, nil, nil, false)
	checkClosed(t, nil, nil, []int{0}, false)
	checkClosed(t, [][]int{{}}, []bool{false}, []int{0}, false)
}

// P6.1: a walk may be of any length.
func TestClosedLong(t *testing.T) {
	next, open := [][]int{{1}, {0, 2}, {0}}, make([]bool, 3)
	walk := slices.Repeat([]int{0, 1, 2}, 1e5)
	checkClosed(t, next, open, walk, true)
	checkClosed(t, next, open, walk[:len(walk)-2], false)
	walk[len(walk)-2] = 2
	checkClosed(t, next, open, walk, false)
}

// P6.1, P6.2: as many vertices and edges as there may be.
func TestLimits(t *testing.T) {
	const n = api.MaxBlocks
	open, all := make([]bool, n), slices.Repeat([]bool{true}, n)
	checkGirth(t, circle(n), open, numbers(0, n))
	for v := range n {
		walk := append(numbers(v, n), numbers(0, v)...)
		checkThrough(t, circle(n), open, v, walk)
		checkClosed(t, circle(n), open, walk, true)
		checkGirth(t, circle(n), shutOnes(n, v), nil)
		checkThrough(t, circle(n), shutOnes(n, v), 0, nil)
		checkThrough(t, upward(n), open, v, nil)
		checkThrough(t, make([][]int, n), open, v, nil)
		checkThrough(t, complete(n), all, v, nil)
		pair := []int{v, 0}
		if v == 0 {
			pair[1] = 1
		}
		checkThrough(t, complete(n), open, v, pair)
	}
	checkGirth(t, complete(n), open, []int{0, 1})
	checkGirth(t, complete(n), shutOnes(n, numbers(0, n-2)...), []int{n - 2, n - 1})
	checkGirth(t, complete(n), shutOnes(n, numbers(0, n-1)...), nil)
	checkGirth(t, complete(n), all, nil)
	checkGirth(t, upward(n), open, nil)
	checkGirth(t, make([][]int, n), open, nil)
	// The last two vertices are the only ones on a closed walk.
	last := upward(n)
	last[n-1] = []int{n - 2}
	checkGirth(t, last, open, []int{n - 2, n - 1})
}

// P6.1, P6.2: graphs that are not valid; ErrInvalid comes before ErrRange.
func TestNotValid(t *testing.T) {
	const n = api.MaxBlocks + 1
	for _, next := range [][][]int{
		{{0}},
		{{1}},
		{{-1}},
		{{math.MaxInt}},
		{{math.MinInt}},
		{{1}, {1}},
		{{1}, {0, 1}},
		{{1}, {-1, 0}},
		{{1}, {0, 2}},
		{{1, 1}, {0}},
		{{2, 1}, {0}, {0}},
		{{1, 2, 3}, {0}, {0}},
		{{1}, make([]int, 1e6)},
		make([][]int, n),
		circle(n),
		complete(n),
		make([][]int, 1e6),
	} {
		for _, m := range []int{len(next), 0, len(next) + 1} {
			checkErrors(t, next, make([]bool, m), api.ErrInvalid)
		}
		checkErrors(t, next, slices.Repeat([]bool{true}, len(next)), api.ErrInvalid)
	}
	checkClosed(t, circle(n), make([]bool, n), numbers(0, n), false)
	checkClosed(t, [][]int{{1, 2}, {2, 0}, {0}}, make([]bool, 3), []int{0, 1, 2}, false)
}

// P6.1, P6.2: shut vertices that are not as many as the vertices.
func TestShutLength(t *testing.T) {
	for _, n := range []int{0, 1, 2, 3, api.MaxBlocks} {
		for _, m := range []int{0, 1, 2, 3, api.MaxBlocks, api.MaxBlocks + 1, 1e6} {
			if m != n {
				checkErrors(t, complete(n), make([]bool, m), api.ErrRange)
			}
		}
	}
	checkErrors(t, circle(3), nil, api.ErrRange)
	checkErrors(t, circle(3), []bool{false, false}, api.ErrRange)
	checkErrors(t, circle(3), []bool{true, true, true, true}, api.ErrRange)
}

// P6.2: arguments that are not vertices.
func TestThroughRange(t *testing.T) {
	for _, n := range []int{0, 1, 3, api.MaxBlocks} {
		for _, v := range []int{-1, n, n + 1, api.MaxBlocks, api.MaxBlocks + 1, 1 << 32, math.MaxInt, math.MinInt} {
			checkThroughError(t, complete(n), make([]bool, n), v, api.ErrRange)
			checkThroughError(t, complete(n), slices.Repeat([]bool{true}, n), v, api.ErrRange)
		}
	}
}

// closedModel is the definition of a closed walk of vertices of a valid graph.
func closedModel(next [][]int, shut []bool, walk []int) bool {
	for i, v := range walk {
		if shut[v] || !slices.Contains(next[v], walk[(i+1)%len(walk)]) {
			return false
		}
	}
	return len(walk) > 0
}

// listsOf returns all lists of at most so many vertices of n: the shorter ones first, and those of one length in
// lexicographic order.
func listsOf(n, most int) [][]int {
	lists := [][]int{nil}
	for i := 0; i < len(lists) && len(lists[i]) < most; i++ {
		for v := range n {
			lists = append(lists, append(slices.Clone(lists[i]), v))
		}
	}
	return lists
}

// checkLists checks the walks of a graph with shut vertices by trying lists in the order of listsOf.
func checkLists(t *testing.T, next [][]int, shut []bool, lists [][]int) {
	t.Helper()
	var first []int
	through := make([][]int, len(next))
	for _, walk := range lists {
		if !closedModel(next, shut, walk) {
			continue
		}
		if first == nil {
			first = walk
		}
		if through[walk[0]] == nil {
			through[walk[0]] = walk
		}
	}
	checkGirth(t, next, shut, first)
	for v, want := range through {
		checkThrough(t, next, shut, v, want)
	}
}

// graphOf returns the graph of n vertices that has the edges of the ones of a number.
func graphOf(n, bits int) [][]int {
	next := complete(n)
	for v := range next {
		var list []int
		for _, to := range next[v] {
			if bits&1 == 1 {
				list = append(list, to)
			}
			bits >>= 1
		}
		next[v] = list
	}
	return next
}

// allShut calls a function with all choices of shut vertices.
func allShut(n int, f func(shut []bool)) {
	for bits := range 1 << n {
		shut := make([]bool, n)
		for v := range shut {
			shut[v] = bits>>v&1 == 1
		}
		f(shut)
	}
}

// P6.1: all lists of at most four vertices in all graphs of at most three, with all choices of shut vertices.
func TestClosedAgainstModel(t *testing.T) {
	for n := range 4 {
		lists := listsOf(n, 4)
		for bits := range 1 << (n * (n - 1)) {
			next := graphOf(n, bits)
			allShut(n, func(shut []bool) {
				for _, walk := range lists {
					checkClosed(t, next, shut, walk, closedModel(next, shut, walk))
				}
			})
		}
	}
}

// P6.2: all graphs of at most four vertices, with all choices of shut vertices.
func TestAgainstModel(t *testing.T) {
	for n := range 5 {
		// A shortest closed walk has no vertex twice, so it is one of these lists.
		lists := listsOf(n, n)
		for bits := range 1 << (n * (n - 1)) {
			next := graphOf(n, bits)
			allShut(n, func(shut []bool) { checkLists(t, next, shut, lists) })
		}
	}
}

// throughModel builds for each number of vertices and each vertex the first list that goes on from there and ends with
// a vertex that has an edge to v. It takes the first length at which there is one from v.
func throughModel(next [][]int, shut []bool, v int) []int {
	ways := make([][]int, len(next))
	for u, list := range next {
		if !shut[u] && !shut[v] && slices.Contains(list, v) {
			ways[u] = []int{u}
		}
	}
	for range next {
		if ways[v] != nil {
			return ways[v]
		}
		longer := make([][]int, len(next))
		for u, list := range next {
			for _, to := range list {
				if !shut[u] && ways[to] != nil {
					longer[u] = append([]int{u}, ways[to]...)
					break
				}
			}
		}
		ways = longer
	}
	return ways[v]
}

// randomGraph returns a graph, sparse or dense, with shut vertices.
func randomGraph(random *rand.Rand) ([][]int, []bool) {
	n := 1 + random.IntN(api.MaxBlocks)
	edges, closed := random.IntN(5), random.IntN(4)
	next, shut := complete(n), make([]bool, n)
	for v := range next {
		next[v] = slices.DeleteFunc(next[v], func(int) bool { return random.IntN(n) >= edges })
		shut[v] = random.IntN(8) < closed
	}
	return next, shut
}

// P6.1, P6.2: graphs with more vertices, of a fixed seed.
func TestAgainstModelLarge(t *testing.T) {
	random := rand.New(rand.NewPCG(6, 6))
	for range 3000 {
		next, shut := randomGraph(random)
		var shortest []int
		for v := range next {
			walk := throughModel(next, shut, v)
			checkThrough(t, next, shut, v, walk)
			checkClosed(t, next, shut, walk, len(walk) > 0)
			if shortest == nil || len(walk) > 0 && len(walk) < len(shortest) {
				shortest = walk
			}
			mixed := append(slices.Clone(walk), random.IntN(len(next)))
			checkClosed(t, next, shut, mixed, closedModel(next, shut, mixed))
		}
		checkGirth(t, next, shut, shortest)
	}
}

// P6.2: the vertices of a walk are different, and the girth is the least length of Through.
func TestWalks(t *testing.T) {
	random := rand.New(rand.NewPCG(6, 7))
	for range 1000 {
		next, shut := randomGraph(random)
		least := 0
		for v := range next {
			n, walk, _ := girth.Through(next, shut, v)
			if n > 0 && (least == 0 || n < least) {
				least = n
			}
			slices.Sort(walk)
			if len(slices.Compact(walk)) != n {
				t.Errorf("in %v with %v shut, the walk through %d has a vertex twice", next, shut, v)
			}
		}
		if n, _, _ := girth.Girth(next, shut); n != least {
			t.Errorf("in %v with %v shut, the girth is %d, but %d through a vertex", next, shut, n, least)
		}
	}
}

// girthOrMore returns the girth, or more than any girth if there is no closed walk.
func girthOrMore(next [][]int, shut []bool) int {
	n, _, _ := girth.Girth(next, shut)
	if n == 0 {
		return math.MaxInt
	}
	return n
}

// P6.2: the girth never falls when a vertex is shut, and never rises when an edge is added.
func TestMonotonous(t *testing.T) {
	for bits := range 1 << 12 {
		next, open := graphOf(4, bits), make([]bool, 4)
		n := girthOrMore(next, open)
		for v := range next {
			if girthOrMore(next, shutOnes(4, v)) < n {
				t.Errorf("the girth of %v falls when %d is shut", next, v)
			}
		}
		for edge := range 12 {
			if girthOrMore(graphOf(4, bits|1<<edge), open) > n {
				t.Errorf("the girth of %v rises with the edge %d", next, edge)
			}
		}
	}
}

// R2: a result shares no memory with the arguments or with another result.
func TestNewMemory(t *testing.T) {
	next, shut := complete(5), make([]bool, 5)
	_, first, _ := girth.Girth(next, shut)
	_, through, _ := girth.Through(next, shut, 3)
	_ = append(first, 7, 7, 7, 7)
	_ = append(through, 7, 7, 7, 7)
	clear(first[:cap(first)])
	if !slices.Equal(through, []int{3, 0}) || !sameGraph(next, complete(5)) || slices.Contains(shut, true) {
		t.Errorf("a change of the walk of Girth changed %v, %v, %v", through, next, shut)
	}
	clear(through[:cap(through)])
	checkGirth(t, complete(5), shut, []int{0, 1})
	checkThrough(t, complete(5), shut, 3, []int{3, 0})
	checkGirth(t, next, shut, []int{0, 1})
	_, first, _ = girth.Girth(next, shut)
	_, through, _ = girth.Through(next, shut, 3)
	for v, list := range next {
		clear(list)
		shut[v] = true
	}
	if !slices.Equal(first, []int{0, 1}) || !slices.Equal(through, []int{3, 0}) {
		t.Errorf("a change of the graph changed the walks to %v, %v", first, through)
	}
}

// R2: arguments are left as they were, also behind their ends. R6: a second call has the same result.
func TestArgumentsKept(t *testing.T) {
	const T, F = true, false
	edges := []int{1, 2, 9, 0, 9, 0, 1, 9}
	rows := [][]int{edges[:2], edges[3:4], edges[5:7], edges[7:7], {9}}
	shut := []bool{F, F, T, F, T}
	walk := []int{1, 0, 9}
	for range 2 {
		checkGirth(t, rows[:4], shut[:4], []int{0, 1})
		checkThrough(t, rows[:4], shut[:4], 1, []int{1, 0})
		checkClosed(t, rows[:4], shut[:4], walk[:2], true)
	}
	if !slices.Equal(edges, []int{1, 2, 9, 0, 9, 0, 1, 9}) || !slices.Equal(shut, []bool{F, F, T, F, T}) ||
		!sameGraph(rows, [][]int{{1, 2}, {0}, {0, 1}, {}, {9}}) || !slices.Equal(walk, []int{1, 0, 9}) {
		t.Errorf("the arguments were changed to %v, %v, %v, %v", edges, rows, shut, walk)
	}
}
