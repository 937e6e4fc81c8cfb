package routes_test

import (
	"fmt"
	"math"
	"math/rand/v2"
	"slices"
	"testing"

	"blockway/api"
	"blockway/routes"
)

// short keeps the messages of tests with long arguments readable.
func short(x any) string {
	return fmt.Sprintf("%.400s", fmt.Sprintf("%v", x))
}

func checkDistances(t *testing.T, next [][]int, shut []bool, goal int, want []int) {
	t.Helper()
	got, e := routes.Distances(next, shut, goal)
	if e != api.OK || !slices.Equal(got, want) {
		t.Errorf("Distances(%s, %v, %d) = %v, %d, want %v, 0", short(next), shut, goal, got, e, want)
	}
}

func checkHops(t *testing.T, next [][]int, shut []bool, goal int, want []int) {
	t.Helper()
	got, e := routes.Hops(next, shut, goal)
	if e != api.OK || !slices.Equal(got, want) {
		t.Errorf("Hops(%s, %v, %d) = %v, %d, want %v, 0", short(next), shut, goal, got, e, want)
	}
}

func checkPath(t *testing.T, next [][]int, shut []bool, from, goal int, want []int) {
	t.Helper()
	got, e := routes.Path(next, shut, from, goal)
	if e != api.OK || !slices.Equal(got, want) {
		t.Errorf("Path(%s, %v, %d, %d) = %v, %d, want %v, 0", short(next), shut, from, goal, got, e, want)
	}
}

func checkTable(t *testing.T, next [][]int, shut []bool, want [][]int) {
	t.Helper()
	got, e := routes.Table(next, shut)
	if e != api.OK || !slices.EqualFunc(got, want, slices.Equal) {
		t.Errorf("Table(%s, %v) = %v, %d, want %v, 0", short(next), shut, got, e, want)
	}
}

// checkGoalError checks a goal that is refused, and a path to it.
func checkGoalError(t *testing.T, next [][]int, shut []bool, from, goal int, want api.Errno) {
	t.Helper()
	if list, e := routes.Distances(next, shut, goal); e != want || len(list) != 0 {
		t.Errorf("Distances(%s, %s, %d) = %v, %d, want none, %d", short(next), short(shut), goal, list, e, want)
	}
	if list, e := routes.Hops(next, shut, goal); e != want || len(list) != 0 {
		t.Errorf("Hops(%s, %s, %d) = %v, %d, want none, %d", short(next), short(shut), goal, list, e, want)
	}
	checkPathError(t, next, shut, from, goal, want)
}

func checkPathError(t *testing.T, next [][]int, shut []bool, from, goal int, want api.Errno) {
	t.Helper()
	if list, e := routes.Path(next, shut, from, goal); e != want || len(list) != 0 {
		t.Errorf("Path(%s, %s, %d, %d) = %v, %d, want none, %d", short(next), short(shut), from, goal, list, e, want)
	}
}

// checkErrors checks a graph or shut vertices that are refused whatever the other arguments are.
func checkErrors(t *testing.T, next [][]int, shut []bool, want api.Errno) {
	t.Helper()
	for _, from := range []int{0, -1, len(next), math.MaxInt} {
		for _, goal := range []int{0, 1, -1, len(next), math.MinInt} {
			checkGoalError(t, next, shut, from, goal, want)
		}
	}
	if table, e := routes.Table(next, shut); e != want || len(table) != 0 {
		t.Errorf("Table(%s, %s) = %v, %d, want none, %d", short(next), short(shut), table, e, want)
	}
}

// graphOf returns the graph of n vertices that has the edges for which a function holds.
func graphOf(n int, edge func(from, to int) bool) [][]int {
	next := make([][]int, n)
	for from := range n {
		for to := range n {
			if from != to && edge(from, to) {
				next[from] = append(next[from], to)
			}
		}
	}
	return next
}

func circle(n int) [][]int {
	return graphOf(n, func(from, to int) bool { return to == (from+1)%n })
}

func complete(n int) [][]int {
	return graphOf(n, func(int, int) bool { return true })
}

// shutOnes returns n elements, of which these are true.
func shutOnes(n int, ones ...int) []bool {
	shut := make([]bool, n)
	for _, v := range ones {
		shut[v] = true
	}
	return shut
}

// example is a graph and a goal, with the distances, the hops and the paths of all vertices.
type example struct {
	next      [][]int
	shut      []int
	goal      int
	distances []int
	hops      []int
	paths     [][]int
}

func examples() []example {
	two := [][]int{{1, 2}, {3}, {3}, {0}}                             // two shortest paths from 0 to 3
	line := [][]int{{1}, {2}, {}}                                     // one way only
	ladder := [][]int{{1, 2}, {3, 4}, {3, 4}, {5}, {5}, {}}           // four shortest paths from 0 to 5
	bait := [][]int{{1, 2}, {4}, {3}, {}, {3}}                        // the least next vertex of 0 is on a longer path to 3
	back := [][]int{{1, 3}, {0, 2}, {1, 3}, {0, 2}}                   // a circle in both directions
	falling := [][]int{{}, {0}, {1}, {0, 1, 2}}                       // from greater vertices to lesser ones
	later := [][]int{{2, 3}, {5}, {4}, {1}, {5}, {}}                  // the lesser second vertex leads to a greater third one
	parts := [][]int{{1}, {0}, {3}, {2}}                              // two parts without an edge in between
	into := [][]int{{1}, {2}, {1}}                                    // 0 leads into a circle without it
	shortcut := [][]int{{1, 4}, {2}, {3}, {4}, {0}}                   // an edge past all others
	lesser := [][]int{{3}, {3}, {3}, {0, 1, 2, 4}, {1, 2}, {}}        // the way back has several vertices at each distance
	around := [][]int{{5}, {}, {1}, {1}, {2, 3}, {4, 6}, {3}, {0, 6}} // greater vertices lie in between
	return []example{
		{circle(4), nil, 0, []int{0, 3, 2, 1}, []int{-1, 2, 3, 0}, [][]int{{0}, {1, 2, 3, 0}, {2, 3, 0}, {3, 0}}},
		{circle(4), nil, 2, []int{2, 1, 0, 3}, []int{1, 2, -1, 0}, [][]int{{0, 1, 2}, {1, 2}, {2}, {3, 0, 1, 2}}},
		{circle(4), []int{2}, 0, []int{0, -1, -1, 1}, []int{-1, -1, -1, 0}, [][]int{{0}, nil, nil, {3, 0}}},
		{circle(4), []int{0}, 0, []int{-1, -1, -1, -1}, []int{-1, -1, -1, -1}, [][]int{nil, nil, nil, nil}},
		{circle(4), []int{0, 1, 2, 3}, 2, []int{-1, -1, -1, -1}, []int{-1, -1, -1, -1}, [][]int{nil, nil, nil, nil}},
		{circle(4), []int{0, 1, 3}, 2, []int{-1, -1, 0, -1}, []int{-1, -1, -1, -1}, [][]int{nil, nil, {2}, nil}},
		{[][]int{nil}, nil, 0, []int{0}, []int{-1}, [][]int{{0}}},
		{[][]int{{}}, []int{0}, 0, []int{-1}, []int{-1}, [][]int{nil}},
		{line, nil, 2, []int{2, 1, 0}, []int{1, 2, -1}, [][]int{{0, 1, 2}, {1, 2}, {2}}},
		{line, nil, 0, []int{0, -1, -1}, []int{-1, -1, -1}, [][]int{{0}, nil, nil}},
		{line, []int{1}, 2, []int{-1, -1, 0}, []int{-1, -1, -1}, [][]int{nil, nil, {2}}},
		{line, []int{0}, 2, []int{-1, 1, 0}, []int{-1, 2, -1}, [][]int{nil, {1, 2}, {2}}},
		{two, nil, 3, []int{2, 1, 1, 0}, []int{1, 3, 3, -1}, [][]int{{0, 1, 3}, {1, 3}, {2, 3}, {3}}},
		{two, []int{1}, 3, []int{2, -1, 1, 0}, []int{2, -1, 3, -1}, [][]int{{0, 2, 3}, nil, {2, 3}, {3}}},
		{ladder, nil, 5, []int{3, 2, 2, 1, 1, 0}, []int{1, 3, 3, 5, 5, -1},
			[][]int{{0, 1, 3, 5}, {1, 3, 5}, {2, 3, 5}, {3, 5}, {4, 5}, {5}}},
		{ladder, []int{3}, 5, []int{3, 2, 2, -1, 1, 0}, []int{1, 4, 4, -1, 5, -1},
			[][]int{{0, 1, 4, 5}, {1, 4, 5}, {2, 4, 5}, nil, {4, 5}, {5}}},
		{bait, nil, 3, []int{2, 2, 1, 0, 1}, []int{2, 4, 3, -1, 3}, [][]int{{0, 2, 3}, {1, 4, 3}, {2, 3}, {3}, {4, 3}}},
		{bait, []int{2}, 3, []int{3, 2, -1, 0, 1}, []int{1, 4, -1, -1, 3}, [][]int{{0, 1, 4, 3}, {1, 4, 3}, nil, {3}, {4, 3}}},
		{back, nil, 2, []int{2, 1, 0, 1}, []int{1, 2, -1, 2}, [][]int{{0, 1, 2}, {1, 2}, {2}, {3, 2}}},
		{back, nil, 1, []int{1, 0, 1, 2}, []int{1, -1, 1, 0}, [][]int{{0, 1}, {1}, {2, 1}, {3, 0, 1}}},
		{falling, nil, 0, []int{0, 1, 2, 1}, []int{-1, 0, 1, 0}, [][]int{{0}, {1, 0}, {2, 1, 0}, {3, 0}}},
		{falling, nil, 1, []int{-1, 0, 1, 1}, []int{-1, -1, 1, 1}, [][]int{nil, {1}, {2, 1}, {3, 1}}},
		{later, nil, 5, []int{3, 1, 2, 2, 1, 0}, []int{2, 5, 4, 1, 5, -1},
			[][]int{{0, 2, 4, 5}, {1, 5}, {2, 4, 5}, {3, 1, 5}, {4, 5}, {5}}},
		{parts, nil, 3, []int{-1, -1, 1, 0}, []int{-1, -1, 3, -1}, [][]int{nil, nil, {2, 3}, {3}}},
		{into, nil, 2, []int{2, 1, 0}, []int{1, 2, -1}, [][]int{{0, 1, 2}, {1, 2}, {2}}},
		{into, nil, 0, []int{0, -1, -1}, []int{-1, -1, -1}, [][]int{{0}, nil, nil}},
		{shortcut, nil, 4, []int{1, 3, 2, 1, 0}, []int{4, 2, 3, 4, -1}, [][]int{{0, 4}, {1, 2, 3, 4}, {2, 3, 4}, {3, 4}, {4}}},
		{lesser, nil, 1, []int{2, 0, 2, 1, 1, -1}, []int{3, -1, 3, 1, 1, -1},
			[][]int{{0, 3, 1}, {1}, {2, 3, 1}, {3, 1}, {4, 1}, nil}},
		{around, nil, 1, []int{4, 0, 1, 1, 2, 3, 2, 3}, []int{5, -1, 1, 1, 2, 4, 3, 6},
			[][]int{{0, 5, 4, 2, 1}, {1}, {2, 1}, {3, 1}, {4, 2, 1}, {5, 4, 2, 1}, {6, 3, 1}, {7, 6, 3, 1}}},
	}
}

// P7.1: the distances, of the goal, of vertices that reach it, of others, and of shut ones.
func TestDistances(t *testing.T) {
	for _, c := range examples() {
		checkDistances(t, c.next, shutOnes(len(c.next), c.shut...), c.goal, c.distances)
	}
}

// P7.1: the least next vertices of shortest paths; none for the goal, and none without a path.
func TestHops(t *testing.T) {
	for _, c := range examples() {
		checkHops(t, c.next, shutOnes(len(c.next), c.shut...), c.goal, c.hops)
	}
}

// P7.2: the first shortest paths, also from the goal, from shut vertices and to shut goals.
func TestPath(t *testing.T) {
	for _, c := range examples() {
		for from, want := range c.paths {
			checkPath(t, c.next, shutOnes(len(c.next), c.shut...), from, c.goal, want)
		}
	}
}

// P7.2: the hops of all goals.
func TestTable(t *testing.T) {
	two := [][]int{{1, 2}, {3}, {3}, {0}}
	checkTable(t, nil, nil, nil)
	checkTable(t, [][]int{}, []bool{}, nil)
	checkTable(t, [][]int{{}}, []bool{false}, [][]int{{-1}})
	checkTable(t, [][]int{nil}, []bool{true}, [][]int{{-1}})
	checkTable(t, [][]int{{1}, {}}, []bool{false, false}, [][]int{{-1, -1}, {1, -1}})
	checkTable(t, two, shutOnes(4), [][]int{{-1, 3, 3, 0}, {1, -1, 3, 0}, {2, 3, -1, 0}, {1, 3, 3, -1}})
	checkTable(t, two, shutOnes(4, 1), [][]int{{-1, -1, 3, 0}, {-1, -1, -1, -1}, {2, -1, -1, 0}, {2, -1, 3, -1}})
	checkTable(t, two, shutOnes(4, 0), [][]int{{-1, -1, -1, -1}, {-1, -1, -1, -1}, {-1, -1, -1, -1}, {-1, 3, 3, -1}})
	checkTable(t, two, shutOnes(4, 0, 1, 2, 3), slices.Repeat([][]int{{-1, -1, -1, -1}}, 4))
	for _, c := range examples() {
		shut := shutOnes(len(c.next), c.shut...)
		table, e := routes.Table(c.next, shut)
		if e != api.OK || len(table) != len(c.next) || !slices.Equal(table[c.goal], c.hops) {
			t.Errorf("Table(%v, %v) = %v, %d, want %v for %d", c.next, shut, table, e, c.hops, c.goal)
		}
	}
}

// P7.1, P7.2: as many vertices and edges as there may be.
func TestLimits(t *testing.T) {
	const n = api.MaxBlocks
	open, all := make([]bool, n), slices.Repeat([]bool{true}, n)
	none := slices.Repeat([]int{-1}, n)
	checkTable(t, make([][]int, n), open, slices.Repeat([][]int{none}, n))
	checkTable(t, complete(n), all, slices.Repeat([][]int{none}, n))
	for goal := range n {
		round, roundHops := make([]int, n), slices.Clone(none)
		straight, straightHops := make([]int, n), slices.Clone(none)
		for v := range n {
			round[v] = (goal - v + n) % n
			checkPath(t, circle(n), open, v, goal, walkOf(v, goal, n))
			checkPath(t, circle(n), all, v, goal, nil)
			if v == goal {
				continue
			}
			roundHops[v], straight[v], straightHops[v] = (v+1)%n, 1, goal
			checkPath(t, circle(n), shutOnes(n, v), (v+1)%n, goal, walkOf((v+1)%n, goal, n))
			checkPath(t, complete(n), open, v, goal, []int{v, goal})
			checkPath(t, make([][]int, n), open, v, goal, nil)
		}
		checkDistances(t, circle(n), open, goal, round)
		checkHops(t, circle(n), open, goal, roundHops)
		checkDistances(t, complete(n), open, goal, straight)
		checkHops(t, complete(n), open, goal, straightHops)
		checkDistances(t, complete(n), shutOnes(n, goal), goal, none)
		checkHops(t, complete(n), shutOnes(n, goal), goal, none)
	}
}

// walkOf returns the path from one vertex of a circle of n to another.
func walkOf(from, goal, n int) []int {
	walk := []int{from}
	for from != goal {
		from = (from + 1) % n
		walk = append(walk, from)
	}
	return walk
}

// P7.1, P7.2: graphs that are not valid; ErrInvalid comes before ErrRange.
func TestNotValid(t *testing.T) {
	const n = api.MaxBlocks + 1
	for _, next := range [][][]int{
		{{0}},
		{{1}},
		{{-1}},
		{{math.MaxInt}},
		{{math.MinInt}},
		{{1}, {1}},
		{{1}, {0, 1}},
		{{1}, {-1, 0}},
		{{1}, {0, 2}},
		{{1, 1}, {0}},
		{{2, 1}, {0}, {0}},
		{{1, 2, 3}, {0}, {0}},
		{{1}, make([]int, 1e6)},
		make([][]int, n),
		circle(n),
		complete(n),
		make([][]int, 1e6),
	} {
		for _, m := range []int{len(next), 0, len(next) + 1} {
			checkErrors(t, next, make([]bool, m), api.ErrInvalid)
		}
		checkErrors(t, next, slices.Repeat([]bool{true}, len(next)), api.ErrInvalid)
	}
}

// P7.1, P7.2: shut vertices that are not as many as the vertices.
func TestShutLength(t *testing.T) {
	for _, n := range []int{0, 1, 2, 3, api.MaxBlocks} {
		for _, m := range []int{0, 1, 2, 3, api.MaxBlocks, api.MaxBlocks + 1, 1e6} {
			if m != n {
				checkErrors(t, complete(n), make([]bool, m), api.ErrRange)
				checkErrors(t, circle(n), slices.Repeat([]bool{true}, m), api.ErrRange)
			}
		}
	}
}

// P7.1, P7.2: goals and beginnings of paths that are not vertices, whether the others are shut or not.
func TestRange(t *testing.T) {
	for _, n := range []int{0, 1, 3, api.MaxBlocks} {
		for _, v := range []int{-1, n, n + 1, api.MaxBlocks, api.MaxBlocks + 1, 1 << 32, math.MaxInt, math.MinInt} {
			for _, other := range []int{0, n - 1, v, -2} {
				for _, shut := range [][]bool{make([]bool, n), slices.Repeat([]bool{true}, n)} {
					checkGoalError(t, complete(n), shut, other, v, api.ErrRange)
					checkPathError(t, complete(n), shut, v, other, api.ErrRange)
				}
			}
		}
	}
}

// isPath is the definition of a path of vertices of a valid graph.
func isPath(next [][]int, shut []bool, list []int) bool {
	for i, v := range list {
		if shut[v] || i > 0 && !slices.Contains(next[list[i-1]], v) {
			return false
		}
	}
	return len(list) > 0
}

// listsOf returns all lists of at most so many vertices of n: the shorter ones first, and those of one length in
// lexicographic order.
func listsOf(n, most int) [][]int {
	lists := [][]int{nil}
	for i := 0; i < len(lists) && len(lists[i]) < most; i++ {
		for v := range n {
			lists = append(lists, append(slices.Clone(lists[i]), v))
		}
	}
	return lists
}

// firstPaths returns the first shortest paths to a goal by trying lists in the order of listsOf.
func firstPaths(next [][]int, shut []bool, goal int, lists [][]int) [][]int {
	paths := make([][]int, len(next))
	for _, list := range lists {
		if isPath(next, shut, list) && list[len(list)-1] == goal && paths[list[0]] == nil {
			paths[list[0]] = list
		}
	}
	return paths
}

// checkGoal checks all that is said of a goal, given the first shortest paths to it, and returns its hops.
func checkGoal(t *testing.T, next [][]int, shut []bool, goal int, paths [][]int) []int {
	t.Helper()
	distances := make([]int, len(next))
	for v, path := range paths {
		distances[v] = len(path) - 1
		checkPath(t, next, shut, v, goal, path)
	}
	hops := make([]int, len(next))
	for v, list := range next {
		hops[v] = -1
		for _, to := range slices.Backward(list) {
			if distances[v] > 0 && distances[to] == distances[v]-1 {
				hops[v] = to
			}
		}
	}
	checkDistances(t, next, shut, goal, distances)
	checkHops(t, next, shut, goal, hops)
	return hops
}

// ofBits returns the graph of n vertices that has the edges of the ones of a number.
func ofBits(n, bits int) [][]int {
	return graphOf(n, func(from, to int) bool {
		if to > from {
			to--
		}
		return bits>>(from*(n-1)+to)&1 == 1
	})
}

// allShut calls a function with all choices of shut vertices.
func allShut(n int, f func(shut []bool)) {
	for bits := range 1 << n {
		shut := make([]bool, n)
		for v := range shut {
			shut[v] = bits>>v&1 == 1
		}
		f(shut)
	}
}

// P7.1, P7.2: all graphs of at most four vertices, with all choices of shut vertices.
func TestAgainstModel(t *testing.T) {
	for n := range 5 {
		// A shortest path has no vertex twice, so it is one of these lists.
		lists := listsOf(n, n)
		for bits := range 1 << (n * max(n-1, 0)) {
			next := ofBits(n, bits)
			paths := slices.DeleteFunc(slices.Clone(lists), func(list []int) bool {
				return !isPath(next, make([]bool, n), list)
			})
			allShut(n, func(shut []bool) {
				table := make([][]int, n)
				for goal := range n {
					table[goal] = checkGoal(t, next, shut, goal, firstPaths(next, shut, goal, paths))
				}
				checkTable(t, next, shut, table)
			})
		}
	}
}

// improvePaths lengthens the paths from other vertices by one edge at the front, and reports whether it found any that
// is shorter, or as short and lexicographically before the one that was known.
func improvePaths(next [][]int, shut []bool, paths [][]int) bool {
	better := false
	for v, list := range next {
		for _, to := range list {
			if shut[v] || paths[to] == nil {
				continue
			}
			path := append([]int{v}, paths[to]...)
			if paths[v] == nil || len(path) < len(paths[v]) ||
				len(path) == len(paths[v]) && slices.Compare(path, paths[v]) < 0 {
				paths[v] = path
				better = true
			}
		}
	}
	return better
}

// randomGraph returns a graph, sparse or dense, with shut vertices.
func randomGraph(random *rand.Rand) ([][]int, []bool) {
	n := 1 + random.IntN(api.MaxBlocks)
	edges, closed := 1+random.IntN(5), random.IntN(4)
	next := graphOf(n, func(int, int) bool { return random.IntN(n) < edges })
	shut := make([]bool, n)
	for v := range shut {
		shut[v] = random.IntN(8) < closed
	}
	return next, shut
}

// P7.1, P7.2: graphs with more vertices, of a fixed seed.
func TestAgainstModelLarge(t *testing.T) {
	random := rand.New(rand.NewPCG(7, 7))
	for range 1000 {
		next, shut := randomGraph(random)
		table := make([][]int, len(next))
		for goal := range next {
			paths := make([][]int, len(next))
			if !shut[goal] {
				paths[goal] = []int{goal}
			}
			for improvePaths(next, shut, paths) {
			}
			table[goal] = checkGoal(t, next, shut, goal, paths)
		}
		checkTable(t, next, shut, table)
	}
}

// P7.2: Path follows Hops.
func TestPathFollowsHops(t *testing.T) {
	random := rand.New(rand.NewPCG(7, 8))
	for range 500 {
		next, shut := randomGraph(random)
		from, goal := random.IntN(len(next)), random.IntN(len(next))
		path, _ := routes.Path(next, shut, from, goal)
		hops, _ := routes.Hops(next, shut, goal)
		for i, v := range path {
			end := i == len(path)-1
			if end != (hops[v] == -1) || !end && hops[v] != path[i+1] {
				t.Errorf("in %v with %v shut, the path %v does not follow the hops %v", next, shut, path, hops)
			}
		}
	}
}

// distancesOrMore returns the distances, with more than any distance for vertices that do not reach the goal.
func distancesOrMore(next [][]int, shut []bool, goal int) []int {
	distances, _ := routes.Distances(next, shut, goal)
	for v, d := range distances {
		if d < 0 {
			distances[v] = 1 << 20
		}
	}
	return distances
}

// P7.1: the triangle inequality, and that shutting a vertex never makes a distance of another one smaller.
func TestInequalities(t *testing.T) {
	random := rand.New(rand.NewPCG(7, 9))
	for range 500 {
		next, shut := randomGraph(random)
		a, b := random.IntN(len(next)), random.IntN(len(next))
		toA, toB := distancesOrMore(next, shut, a), distancesOrMore(next, shut, b)
		for v := range next {
			if toB[v] > toA[v]+toB[a] {
				t.Errorf("in %v with %v shut, the distance of %d from %d is greater than over %d", next, shut, v, b, a)
			}
		}
		more := slices.Clone(shut)
		more[a] = true
		for v, d := range distancesOrMore(next, more, b) {
			if d < toB[v] {
				t.Errorf("in %v with %v shut, the distance of %d from %d falls when %d is shut", next, shut, v, b, a)
			}
		}
	}
}

// R2: results share no memory with the arguments, with each other or within each other.
func TestNewMemory(t *testing.T) {
	next, shut := circle(4), make([]bool, 4)
	all := func() [][]int {
		distances, _ := routes.Distances(next, shut, 0)
		hops, _ := routes.Hops(next, shut, 0)
		path, _ := routes.Path(next, shut, 1, 0)
		table, _ := routes.Table(next, shut)
		return append([][]int{distances, hops, path}, table...)
	}
	want := [][]int{
		{0, 3, 2, 1}, {-1, 2, 3, 0}, {1, 2, 3, 0},
		{-1, 2, 3, 0}, {1, -1, 3, 0}, {1, 2, -1, 0}, {1, 2, 3, -1},
	}
	for i := range want {
		lists := all()
		clear(lists[i][:cap(lists[i])])
		for j, list := range lists {
			if j != i && !slices.Equal(list, want[j]) {
				t.Errorf("a change of list %d made list %d %v", i, j, list)
			}
		}
		if !slices.EqualFunc(next, circle(4), slices.Equal) || slices.Contains(shut, true) {
			t.Fatalf("a change of list %d made the arguments %v, %v", i, next, shut)
		}
	}
	lists := all()
	for v, list := range next {
		clear(list)
		shut[v] = true
	}
	if !slices.EqualFunc(lists, want, slices.Equal) {
		t.Errorf("a change of the graph changed the results to %v", lists)
	}
}

// R2: arguments are left as they were, also behind their ends. R6: a second call has the same result.
func TestArgumentsKept(t *testing.T) {
	const T, F = true, false
	edges := []int{1, 2, 9, 0, 9, 0, 1, 9}
	rows := [][]int{edges[:2], edges[3:4], edges[5:7], edges[7:7], {9}}
	shut := []bool{F, F, T, F, T}
	for range 2 {
		checkDistances(t, rows[:4], shut[:4], 1, []int{1, 0, -1, -1})
		checkHops(t, rows[:4], shut[:4], 1, []int{1, -1, -1, -1})
		checkPath(t, rows[:4], shut[:4], 0, 1, []int{0, 1})
		checkTable(t, rows[:4], shut[:4], [][]int{{-1, 0, -1, -1}, {1, -1, -1, -1}, {-1, -1, -1, -1}, {-1, -1, -1, -1}})
	}
	if !slices.Equal(edges, []int{1, 2, 9, 0, 9, 0, 1, 9}) || !slices.Equal(shut, []bool{F, F, T, F, T}) ||
		!slices.EqualFunc(rows, [][]int{{1, 2}, {0}, {0, 1}, {}, {9}}, slices.Equal) {
		t.Errorf("the arguments were changed to %v, %v, %v", edges, rows, shut)
	}
}
