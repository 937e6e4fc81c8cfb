package token_test

import (
	"fmt"
	"math"
	"math/rand/v2"
	"slices"
	"testing"

	"blockway/api"
	"blockway/girth"
	"blockway/routes"
	"blockway/token"
)

// short keeps the messages of tests with long arguments readable.
func short(x any) string {
	return fmt.Sprintf("%.400s", fmt.Sprintf("%v", x))
}

// checkPosition checks all functions of a valid position. A ring of no tokens stands for ErrNone.
func checkPosition(t *testing.T, next [][]int, at, wants, free, ring []int) {
	t.Helper()
	what := fmt.Sprintf("%s, %v, %v", short(next), at, wants)
	if !token.Valid(next, at, wants) {
		t.Errorf("Valid(%s) is false", what)
	}
	if got, e := token.Free(next, at, wants); e != api.OK || !slices.Equal(got, free) {
		t.Errorf("Free(%s) = %v, %d, want %v, 0", what, got, e, free)
	}
	want := len(free) == 0 && slices.ContainsFunc(wants, func(v int) bool { return v >= 0 })
	if got := token.Stuck(next, at, wants); got != want {
		t.Errorf("Stuck(%s) is %v", what, got)
	}
	e := api.OK
	if len(ring) == 0 {
		e = api.ErrNone
	}
	if got, f := token.Ring(next, at, wants); f != e || !slices.Equal(got, ring) {
		t.Errorf("Ring(%s) = %v, %d, want %v, %d", what, got, f, ring, e)
	}
}

// checkNotValid checks all functions of a position that is not valid.
func checkNotValid(t *testing.T, next [][]int, at, wants []int) {
	t.Helper()
	what := fmt.Sprintf("%s, %s, %s", short(next), short(at), short(wants))
	if token.Valid(next, at, wants) {
		t.Errorf("Valid(%s) is true", what)
	}
	if token.Stuck(next, at, wants) {
		t.Errorf("Stuck(%s) is true", what)
	}
	if got, e := token.Free(next, at, wants); e != api.ErrInvalid || len(got) != 0 {
		t.Errorf("Free(%s) = %s, %d, want none, %d", what, short(got), e, api.ErrInvalid)
	}
	if got, e := token.Ring(next, at, wants); e != api.ErrInvalid || len(got) != 0 {
		t.Errorf("Ring(%s) = %s, %d, want none, %d", what, short(got), e, api.ErrInvalid)
	}
}

func checkTight(t *testing.T, next [][]int, at, wants []int, want api.Errno) {
	t.Helper()
	got, to, e := token.Tight(next)
	if e != want || !slices.Equal(got, at) || !slices.Equal(to, wants) {
		t.Errorf("Tight(%s) = %v, %v, %d, want %v, %v, %d", short(next), got, to, e, at, wants, want)
	}
}

func checkFill(t *testing.T, next [][]int, entrance int, moves []api.Move, want api.Errno) {
	t.Helper()
	if got, e := token.Fill(next, entrance); e != want || !slices.Equal(got, moves) {
		t.Errorf("Fill(%s, %d) = %v, %d, want %v, %d", short(next), entrance, got, e, moves, want)
	}
}

func checkReplay(t *testing.T, next [][]int, moves []api.Move, at []int, want api.Errno) {
	t.Helper()
	if got, e := token.Replay(next, moves); e != want || !slices.Equal(got, at) {
		t.Errorf("Replay(%s, %s) = %v, %d, want %v, %d", short(next), short(moves), got, e, at, want)
	}
}

// circle is the graph in which each of n vertices leads to the next one, and the last one to the first one.
func circle(n int) [][]int {
	next := make([][]int, n)
	for v := range next {
		next[v] = []int{(v + 1) % n}
	}
	return next
}

// complete is the graph with all edges of n vertices.
func complete(n int) [][]int {
	next := make([][]int, n)
	for v := range next {
		for to := range n {
			if to != v {
				next[v] = append(next[v], to)
			}
		}
	}
	return next
}

// numbers returns the numbers from first up to and without end.
func numbers(first, end int) []int {
	var list []int
	for v := first; v < end; v++ {
		list = append(list, v)
	}
	return list
}

// turned returns a list without its first element, which comes behind the others.
func turned(list []int) []int {
	return append(slices.Clone(list[1:]), list[0])
}

// route returns the moves of a token that enters and goes through these vertices.
func route(token int, vertices ...int) []api.Move {
	var moves []api.Move
	from := -1
	for _, v := range vertices {
		moves = append(moves, api.Move{Token: token, From: from, To: v})
		from = v
	}
	return moves
}

// moved returns the move of a token that has entered.
func moved(token, from, to int) []api.Move {
	return []api.Move{{Token: token, From: from, To: to}}
}

// badGraphs returns graphs that are not valid.
func badGraphs() [][][]int {
	return [][][]int{
		{{0}},
		{{1}},
		{{-1}},
		{{1}, {1}},
		{{1}, {2}},
		{{1, 1}, {0}},
		{{2, 1}, {0}, {0}},
		{{1}, {math.MaxInt}},
		{{1}, {math.MinInt}},
		circle(api.MaxBlocks + 1),
		make([][]int, 1e6),
	}
}

// P12.1, P12.2: positions in circles, with the free tokens and the rings.
func TestPositions(t *testing.T) {
	const none = -1
	three := circle(3)
	checkPosition(t, nil, nil, nil, nil, nil)
	checkPosition(t, [][]int{}, []int{}, []int{}, nil, nil)
	checkPosition(t, [][]int{nil}, []int{0}, []int{none}, nil, nil)
	checkPosition(t, three, nil, nil, nil, nil)
	checkPosition(t, three, []int{0, 1}, []int{1, 2}, []int{1}, nil)
	checkPosition(t, three, []int{1, 0}, []int{2, 1}, []int{0}, nil)
	checkPosition(t, three, []int{2}, []int{0}, []int{0}, nil)
	checkPosition(t, three, []int{2}, []int{none}, nil, nil)
	checkPosition(t, three, []int{0, 1}, []int{none, none}, nil, nil)
	checkPosition(t, three, []int{0, 1}, []int{1, none}, nil, nil)
	checkPosition(t, three, []int{0, 1}, []int{none, 2}, []int{1}, nil)
	checkPosition(t, three, []int{0, 1, 2}, []int{1, 2, none}, nil, nil)
	checkPosition(t, three, []int{0, 1, 2}, []int{none, 2, 0}, nil, nil)
	checkPosition(t, three, []int{0, 1, 2}, []int{1, 2, 0}, nil, []int{0, 1, 2})
	checkPosition(t, three, []int{2, 1, 0}, []int{0, 2, 1}, nil, []int{0, 2, 1})
	checkPosition(t, three, []int{1, 2, 0}, []int{2, 0, 1}, nil, []int{0, 1, 2})
	checkPosition(t, circle(2), []int{1, 0}, []int{0, 1}, nil, []int{0, 1})
	star := [][]int{{}, {0}, {0}, {0}}
	checkPosition(t, star, []int{3, 1, 2}, []int{0, 0, 0}, []int{0, 1, 2}, nil)
	checkPosition(t, star, []int{3, 1, 0, 2}, []int{0, none, none, 0}, nil, nil)
}

// P12.2: rings behind tails, and rings beside the way that begins with token 0.
func TestRings(t *testing.T) {
	const none = -1
	tail := [][]int{{1}, {2}, {3}, {4}, {2}}
	checkPosition(t, tail, []int{0, 1, 2, 3, 4}, []int{1, 2, 3, 4, 2}, nil, []int{2, 3, 4})
	checkPosition(t, tail, []int{0, 4, 3, 2, 1}, []int{1, 2, 4, 3, 2}, nil, []int{1, 3, 2})
	checkPosition(t, tail, []int{1, 2, 4, 3, 0}, []int{2, 3, 2, 4, 1}, nil, []int{1, 3, 2})
	checkPosition(t, tail, []int{4, 1, 2, 3}, []int{2, 2, 3, 4}, nil, []int{0, 2, 3})
	checkPosition(t, tail, []int{0, 1, 2, 4}, []int{1, 2, 3, 2}, []int{2}, nil)
	checkPosition(t, tail, []int{0, 1, 2, 3, 4}, []int{1, 2, 3, 4, none}, nil, nil)
	// Token 0 leads nowhere, to one ring or to the other one.
	pairs := [][]int{{1, 3}, {2}, {1}, {4}, {3}}
	checkPosition(t, pairs, []int{0, 1, 2, 3, 4}, []int{none, 2, 1, 4, 3}, nil, nil)
	checkPosition(t, pairs, []int{0, 1, 2, 3, 4}, []int{1, 2, 1, 4, 3}, nil, []int{1, 2})
	checkPosition(t, pairs, []int{0, 1, 2, 3, 4}, []int{3, 2, 1, 4, 3}, nil, []int{3, 4})
	checkPosition(t, pairs, []int{0, 4, 3, 2, 1}, []int{3, 3, 4, 1, 2}, nil, []int{1, 2})
	checkPosition(t, pairs, []int{0, 2, 3, 4}, []int{1, 1, 4, 3}, []int{0, 1}, nil)
	// A ring that is reached although a token beside it is free.
	checkPosition(t, pairs, []int{3, 4, 0}, []int{4, 3, 1}, []int{2}, []int{0, 1})
}

// P12.1, P12.2: as many tokens as there may be.
func TestPositionLimits(t *testing.T) {
	const n = api.MaxBlocks
	all := numbers(0, n)
	checkPosition(t, circle(n), all, turned(all), nil, all)
	checkPosition(t, circle(n), all, slices.Repeat([]int{-1}, n), nil, nil)
	checkPosition(t, circle(n), all[:n-1], turned(all)[:n-1], []int{n - 2}, nil)
	checkPosition(t, make([][]int, n), all, slices.Repeat([]int{-1}, n), nil, nil)
	more := numbers(0, n+1)
	checkNotValid(t, circle(n), more, slices.Repeat([]int{-1}, n+1))
	checkNotValid(t, circle(n+1), more, turned(more))
	checkNotValid(t, circle(n+1), all, slices.Repeat([]int{-1}, n))
	checkNotValid(t, circle(n), make([]int, 1e6), slices.Repeat([]int{-1}, 1e6))
}

// P12.1, P12.2: positions that are not valid.
func TestNotValid(t *testing.T) {
	for _, c := range [][2][]int{
		{{0}, {}},
		{{}, {-1}},
		{{0, 1}, {1}},
		{{0}, {1, 2}},
		{{0, 0}, {1, 1}},
		{{0, 1, 0}, {-1, -1, -1}},
		{{0, 2, 1, 2}, {-1, -1, -1, -1}},
		{{-1}, {-1}},
		{{-1}, {0}},
		{{3}, {-1}},
		{{3}, {0}},
		{{0, 3}, {1, -1}},
		{{math.MaxInt}, {-1}},
		{{math.MinInt}, {-1}},
		{{0}, {0}},
		{{0}, {2}},
		{{0}, {3}},
		{{0}, {-2}},
		{{0}, {math.MaxInt}},
		{{0}, {math.MinInt}},
		{{0, 1, 2}, {1, 2, 1}},
	} {
		checkNotValid(t, circle(3), c[0], c[1])
	}
	checkNotValid(t, nil, []int{0}, []int{-1})
	for _, next := range badGraphs() {
		checkNotValid(t, next, nil, nil)
		checkNotValid(t, next, []int{0}, []int{-1})
		checkNotValid(t, next, []int{0}, []int{1})
	}
}

// validModel is the definition of a valid position of a valid graph.
func validModel(next [][]int, at, wants []int) bool {
	if len(at) != len(wants) || len(at) > api.MaxBlocks {
		return false
	}
	for k, v := range at {
		if v < 0 || v > len(next)-1 || slices.Contains(at[:k], v) {
			return false
		}
		if wants[k] != -1 && !slices.Contains(next[v], wants[k]) {
			return false
		}
	}
	return true
}

// ringModel lists the tokens from 0 on until one comes again, and turns the list from there on.
func ringModel(at, wants []int) []int {
	list := []int{0}
	for len(at) > 0 {
		then := slices.Index(at, wants[list[len(list)-1]])
		if then < 0 {
			return nil
		}
		if i := slices.Index(list, then); i >= 0 {
			ring := list[i:]
			for ring[0] != slices.Min(ring) {
				ring = turned(ring)
			}
			return ring
		}
		list = append(list, then)
	}
	return nil
}

// checkModel checks a position of a valid graph against the definitions.
func checkModel(t *testing.T, next [][]int, at, wants []int) {
	t.Helper()
	if !validModel(next, at, wants) {
		checkNotValid(t, next, at, wants)
		return
	}
	var free []int
	for k, v := range wants {
		if v != -1 && !slices.Contains(at, v) {
			free = append(free, k)
		}
	}
	checkPosition(t, next, at, wants, free, ringModel(at, wants))
}

// graphOf returns the graph of n vertices that has the edges of the ones of a number.
func graphOf(n, bits int) [][]int {
	next := complete(n)
	for v := range next {
		var list []int
		for _, to := range next[v] {
			if bits&1 == 1 {
				list = append(list, to)
			}
			bits >>= 1
		}
		next[v] = list
	}
	return next
}

// eachGraph calls a function with all graphs of at most so many vertices.
func eachGraph(most int, f func(next [][]int)) {
	for n := range most + 1 {
		for bits := range 1 << (n * (n - 1)) {
			f(graphOf(n, bits))
		}
	}
}

// listsOf returns all lists of at most so many numbers from first to last.
func listsOf(first, last, most int) [][]int {
	lists := [][]int{nil}
	for i := 0; i < len(lists) && len(lists[i]) < most; i++ {
		for v := first; v <= last; v++ {
			lists = append(lists, append(slices.Clone(lists[i]), v))
		}
	}
	return lists
}

// P12.1, P12.2: all short lists in all graphs of at most three vertices.
func TestAgainstModel(t *testing.T) {
	eachGraph(3, func(next [][]int) {
		for _, at := range listsOf(-1, len(next), 2) {
			for _, wants := range listsOf(-2, len(next), 2) {
				checkModel(t, next, at, wants)
			}
		}
		for _, at := range [][]int{{0, 1, 2}, {0, 2, 1}, {1, 0, 2}, {1, 2, 0}, {2, 0, 1}, {2, 1, 0}} {
			for _, wants := range listsOf(-1, 2, 3) {
				checkModel(t, next, at, wants)
			}
		}
	})
}

// randomGraph returns a graph, sparse or dense.
func randomGraph(random *rand.Rand) [][]int {
	n := 1 + random.IntN(api.MaxBlocks)
	edges := 1 + random.IntN(4)
	next := complete(n)
	for v := range next {
		next[v] = slices.DeleteFunc(next[v], func(int) bool { return random.IntN(n) >= edges })
	}
	return next
}

// randomPosition returns a position of so many tokens, of which most want something.
func randomPosition(random *rand.Rand, next [][]int, tokens int) (at, wants []int) {
	at = random.Perm(len(next))[:tokens]
	for _, v := range at {
		want := -1
		if len(next[v]) > 0 && random.IntN(20) > 0 {
			want = next[v][random.IntN(len(next[v]))]
		}
		wants = append(wants, want)
	}
	return at, wants
}

// P12.1, P12.2: graphs with more vertices and tokens, of a fixed seed, now and then with one wrong number.
func TestAgainstModelLarge(t *testing.T) {
	random := rand.New(rand.NewPCG(12, 1))
	for range 20000 {
		next := randomGraph(random)
		tokens := len(next) - random.IntN(len(next)+1)/(1+random.IntN(4))
		at, wants := randomPosition(random, next, tokens)
		checkModel(t, next, at, wants)
		for _, list := range [][]int{at, wants} {
			if len(list) > 0 && random.IntN(2) == 0 {
				list[random.IntN(len(list))] = random.IntN(len(next)+3) - 2
				checkModel(t, next, at, wants)
			}
		}
	}
}

// P12.1: with fewer tokens than the girth, all of which want something, a token is free.
func TestBelowGirth(t *testing.T) {
	random := rand.New(rand.NewPCG(12, 2))
	for range 20000 {
		next := randomGraph(random)
		n, _, _ := girth.Girth(next, make([]bool, len(next)))
		if n < 2 {
			continue
		}
		at, wants := randomPosition(random, next, 1+random.IntN(n-1))
		if slices.Contains(wants, -1) {
			continue
		}
		if free, e := token.Free(next, at, wants); e != api.OK || len(free) == 0 || token.Stuck(next, at, wants) {
			t.Errorf("below the girth %d of %v, no token of %v, %v is free", n, next, at, wants)
		}
	}
}

// P12.3: the first shortest closed walk, full of tokens.
func TestTight(t *testing.T) {
	checkTight(t, circle(2), []int{0, 1}, []int{1, 0}, api.OK)
	checkTight(t, circle(3), []int{0, 1, 2}, []int{1, 2, 0}, api.OK)
	checkTight(t, [][]int{{1}, {0, 2}, {0}}, []int{0, 1}, []int{1, 0}, api.OK)
	checkTight(t, [][]int{{1}, {2}, {3}, {1}}, []int{1, 2, 3}, []int{2, 3, 1}, api.OK)
	checkTight(t, [][]int{{3}, {0}, {1}, {2}}, []int{0, 3, 2, 1}, []int{3, 2, 1, 0}, api.OK)
	checkTight(t, complete(api.MaxBlocks), []int{0, 1}, []int{1, 0}, api.OK)
	all := numbers(0, api.MaxBlocks)
	checkTight(t, circle(api.MaxBlocks), all, turned(all), api.OK)
	checkTight(t, nil, nil, nil, api.ErrNone)
	checkTight(t, [][]int{{}}, nil, nil, api.ErrNone)
	checkTight(t, [][]int{{1, 2}, {2}, {}}, nil, nil, api.ErrNone)
	for _, next := range badGraphs() {
		checkTight(t, next, nil, nil, api.ErrInvalid)
	}
}

// P12.4: the example of the chapter, and paths to walks from within and from outside.
func TestFill(t *testing.T) {
	checkFill(t, circle(3), 0, slices.Concat(route(0, 0, 1, 2), route(1, 0, 1), route(2, 0)), api.OK)
	checkFill(t, circle(3), 1, slices.Concat(route(0, 1, 2, 0), route(1, 1, 2), route(2, 1)), api.OK)
	checkFill(t, circle(3), 2, slices.Concat(route(0, 2, 0, 1), route(1, 2, 0), route(2, 2)), api.OK)
	checkFill(t, complete(5), 3, slices.Concat(route(0, 3, 0, 1), route(1, 3, 0)), api.OK)
	// The walk is 1, 2, 3, and the entrance leads to vertex 2 alone.
	behind := [][]int{{2}, {2}, {3}, {1}, {0}}
	checkFill(t, behind, 4, slices.Concat(route(0, 4, 0, 2, 3, 1), route(1, 4, 0, 2, 3), route(2, 4, 0, 2)), api.OK)
	// The walk is 0, 3, 1. Vertices 1 and 3 are equally near: the smaller one counts, not the one that comes first.
	equal := [][]int{{3}, {0}, {1, 3}, {1}}
	checkFill(t, equal, 2, slices.Concat(route(0, 2, 1, 0, 3), route(1, 2, 1, 0), route(2, 2, 1)), api.OK)
	// Vertex 0 of the walk 0, 1 is farther away than vertex 1, and the last vertices lead to no walk.
	nearer := [][]int{{1}, {0}, {1, 3}, {0}, {5}, {}}
	checkFill(t, nearer, 2, slices.Concat(route(0, 2, 1, 0), route(1, 2, 1)), api.OK)
	checkFill(t, nearer, 3, slices.Concat(route(0, 3, 0, 1), route(1, 3, 0)), api.OK)
	checkFill(t, nearer, 4, nil, api.ErrNone)
	checkFill(t, nearer, 5, nil, api.ErrNone)
	// Two paths of one length to vertex 0: the first one counts.
	ways := [][]int{{1}, {0}, {3, 4}, {0}, {0}}
	checkFill(t, ways, 2, slices.Concat(route(0, 2, 3, 0, 1), route(1, 2, 3, 0)), api.OK)
}

// P12.4: errors, the first one first.
func TestFillErrors(t *testing.T) {
	for _, next := range badGraphs() {
		for _, entrance := range []int{0, -1, len(next), math.MaxInt} {
			checkFill(t, next, entrance, nil, api.ErrInvalid)
		}
	}
	for _, next := range [][][]int{nil, {{}}, {{1}, {}}, circle(3), circle(api.MaxBlocks)} {
		for _, entrance := range []int{-1, len(next), len(next) + 1, math.MaxInt, math.MinInt} {
			checkFill(t, next, entrance, nil, api.ErrRange)
		}
	}
	checkFill(t, [][]int{{}}, 0, nil, api.ErrNone)
	checkFill(t, [][]int{{1}, {}}, 0, nil, api.ErrNone)
	checkFill(t, [][]int{{1}, {0}, {}}, 2, nil, api.ErrNone)
	// A longer closed walk does not help: the shortest one is not reached.
	checkFill(t, [][]int{{1}, {0}, {3}, {4}, {2}}, 2, nil, api.ErrNone)
}

// fillModel lets each token follow the path and then the walk up to its own last vertex.
func fillModel(next [][]int, entrance int) ([]api.Move, api.Errno) {
	none := make([]bool, len(next))
	_, walk, _ := girth.Girth(next, none)
	nearest, least := -1, len(next)
	for v := range next {
		distances, _ := routes.Distances(next, none, v)
		if d := distances[entrance]; slices.Contains(walk, v) && d >= 0 && d < least {
			nearest, least = v, d
		}
	}
	if nearest < 0 {
		return nil, api.ErrNone
	}
	after, before := map[int]int{}, map[int]int{}
	for i, to := range turned(walk) {
		after[walk[i]], before[to] = to, walk[i]
	}
	var moves []api.Move
	stop := nearest
	for k := range walk {
		stop = before[stop]
		vertices, _ := routes.Path(next, none, entrance, nearest)
		for v := nearest; v != stop; {
			v = after[v]
			vertices = append(vertices, v)
		}
		moves = append(moves, route(k, vertices...)...)
	}
	return moves, api.OK
}

// checkTightModel checks Tight and Fill, and that what they say is reached and is stuck.
func checkTightModel(t *testing.T, next [][]int) {
	t.Helper()
	_, walk, _ := girth.Girth(next, make([]bool, len(next)))
	if len(walk) == 0 {
		checkTight(t, next, nil, nil, api.ErrNone)
	} else {
		checkTight(t, next, walk, turned(walk), api.OK)
		checkPosition(t, next, walk, turned(walk), nil, numbers(0, len(walk)))
	}
	for entrance := range next {
		moves, e := fillModel(next, entrance)
		checkFill(t, next, entrance, moves, e)
		at, f := token.Replay(next, moves)
		if f != api.OK || e == api.OK && !slices.Equal(slices.Sorted(slices.Values(at)), slices.Sorted(slices.Values(walk))) {
			t.Errorf("Replay(%v, %v) = %v, %d, want the vertices of %v", next, moves, at, f, walk)
		}
	}
}

// P12.3, P12.4, P12.5: all graphs of at most four vertices.
func TestTightAgainstModel(t *testing.T) {
	eachGraph(4, func(next [][]int) { checkTightModel(t, next) })
}

// P12.3, P12.4, P12.5: graphs with more vertices, of a fixed seed, and the one with the most moves.
func TestTightAgainstModelLarge(t *testing.T) {
	random := rand.New(rand.NewPCG(12, 3))
	for range 1000 {
		checkTightModel(t, randomGraph(random))
	}
	checkTightModel(t, circle(api.MaxBlocks))
	if moves, _ := token.Fill(circle(api.MaxBlocks), 5); len(moves) != api.MaxBlocks*(api.MaxBlocks+1)/2 {
		t.Errorf("%d moves fill the largest circle", len(moves))
	}
}

// P12.5: lists of moves that are legal.
func TestReplay(t *testing.T) {
	next := [][]int{{1}, {0, 2}, {0}}
	checkReplay(t, nil, nil, nil, api.OK)
	checkReplay(t, next, nil, nil, api.OK)
	checkReplay(t, next, []api.Move{}, nil, api.OK)
	checkReplay(t, next, route(0, 2), []int{2}, api.OK)
	checkReplay(t, next, route(0, 2, 0, 1, 2, 0), []int{0}, api.OK)
	checkReplay(t, next, slices.Concat(route(0, 2), route(1, 0), route(2, 1)), []int{2, 0, 1}, api.OK)
	checkReplay(t, next, slices.Concat(route(0, 0, 1), route(1, 0), moved(0, 1, 2), moved(1, 0, 1)), []int{2, 1}, api.OK)
	checkReplay(t, make([][]int, api.MaxBlocks), route(0, api.MaxBlocks-1), []int{api.MaxBlocks - 1}, api.OK)
}

// P12.5: lists whose last move is not possible, also with another move behind it.
func TestReplayIllegal(t *testing.T) {
	next := [][]int{{1}, {0, 2}, {0}}
	one, two := route(0, 0), slices.Concat(route(0, 0), route(1, 1))
	for _, moves := range [][]api.Move{
		route(1, 0),
		route(-1, 0),
		route(math.MaxInt, 0),
		route(0, 3),
		route(0, -1),
		route(0, math.MaxInt),
		route(0, math.MinInt),
		{{}}, // token 0 has not entered
		moved(0, 0, 1),
		moved(0, -2, 0),
		slices.Concat(one, route(0, 1)),
		slices.Concat(one, route(2, 1)),
		slices.Concat(one, route(1, 0)),
		slices.Concat(one, moved(0, 0, 0)),
		slices.Concat(one, moved(0, 0, 2)),
		slices.Concat(one, moved(0, 0, 3)),
		slices.Concat(one, moved(0, 0, -1)),
		slices.Concat(one, moved(0, 1, 2)),
		slices.Concat(one, moved(0, -2, 1)),
		slices.Concat(one, moved(0, math.MaxInt, 1)),
		slices.Concat(one, moved(1, 0, 1)),
		slices.Concat(one, moved(-1, 0, 1)),
		slices.Concat(one, moved(math.MinInt, 0, 1)),
		slices.Concat(two, moved(0, 0, 1)),
		slices.Concat(two, moved(1, 1, 0)),
		slices.Concat(two, moved(0, 1, 2)),
	} {
		checkReplay(t, next, moves, nil, api.ErrIllegal)
		checkReplay(t, next, slices.Concat(moves, moved(0, 0, 1)), nil, api.ErrIllegal)
	}
	checkReplay(t, nil, route(0, 0), nil, api.ErrIllegal)
	// The vertex behind a token is free again, the one before it is not.
	checkReplay(t, next, slices.Concat(route(0, 0, 1), route(1, 1)), nil, api.ErrIllegal)
	checkReplay(t, next, slices.Concat(route(0, 0, 1), route(1, 0)), []int{1, 0}, api.OK)
}

// P12.5: the limit of the moves, and the errors in their order.
func TestReplayLimits(t *testing.T) {
	moves := route(0, 0)
	for len(moves) <= api.MaxMoves {
		moves = append(moves, api.Move{From: 0, To: 1}, api.Move{From: 1, To: 0})
	}
	checkReplay(t, circle(2), moves[:api.MaxMoves], []int{1}, api.OK)
	checkReplay(t, circle(2), moves[:api.MaxMoves+1], nil, api.ErrMany)
	checkReplay(t, circle(2), make([]api.Move, api.MaxMoves), nil, api.ErrIllegal)
	checkReplay(t, circle(2), make([]api.Move, api.MaxMoves+1), nil, api.ErrMany)
	checkReplay(t, nil, make([]api.Move, 1e6), nil, api.ErrMany)
	for _, next := range badGraphs() {
		checkReplay(t, next, nil, nil, api.ErrInvalid)
		checkReplay(t, next, route(0, 0), nil, api.ErrInvalid)
		checkReplay(t, next, route(1, 0), nil, api.ErrInvalid)
		checkReplay(t, next, make([]api.Move, api.MaxMoves+1), nil, api.ErrInvalid)
	}
}

// moveModel returns where the tokens are after one more move, or false if it is not possible.
func moveModel(next [][]int, at []int, m api.Move) ([]int, bool) {
	if slices.Contains(at, m.To) {
		return nil, false
	}
	if m.From == -1 {
		return append(slices.Clone(at), m.To), m.Token == len(at) && m.To >= 0 && m.To < len(next)
	}
	for k, v := range at {
		if k == m.Token && v == m.From && slices.Contains(next[v], m.To) {
			after := slices.Clone(at)
			after[k] = m.To
			return after, true
		}
	}
	return nil, false
}

// checkMoves checks all short lists of moves that go on from a legal one.
func checkMoves(t *testing.T, next [][]int, moves []api.Move, at []int, more int) {
	t.Helper()
	checkReplay(t, next, moves, at, api.OK)
	for k := -1; more > 0 && k <= len(next); k++ {
		for from := -2; from <= len(next); from++ {
			for to := -2; to <= len(next); to++ {
				m := api.Move{Token: k, From: from, To: to}
				longer := append(slices.Clone(moves), m)
				if after, ok := moveModel(next, at, m); ok {
					checkMoves(t, next, longer, after, more-1)
				} else {
					checkReplay(t, next, longer, nil, api.ErrIllegal)
				}
			}
		}
	}
}

// P12.5: all lists of at most four moves in all graphs of at most three vertices.
func TestReplayAgainstModel(t *testing.T) {
	eachGraph(3, func(next [][]int) { checkMoves(t, next, nil, nil, 4) })
}

// P12.5: long lists of moves of a fixed seed, some of which end with a move that is not possible.
func TestReplayAgainstModelLarge(t *testing.T) {
	random := rand.New(rand.NewPCG(12, 4))
	for range 300 {
		next := randomGraph(random)
		var moves []api.Move
		var at []int
		for range 500 {
			m := api.Move{Token: random.IntN(len(at) + 1), From: -1, To: random.IntN(len(next))}
			if m.Token < len(at) {
				m.From = at[m.Token]
			}
			after, ok := moveModel(next, at, m)
			if !ok {
				checkReplay(t, next, append(slices.Clone(moves), m), nil, api.ErrIllegal)
				continue
			}
			moves, at = append(moves, m), after
		}
		checkReplay(t, next, moves, at, api.OK)
	}
}

// R2: a result shares no memory with the arguments, another result, or another part of it.
func TestNewMemory(t *testing.T) {
	// Five elements leave room behind a list that grew one by one, so that parts of one list would show.
	next, at, wants := circle(5), numbers(0, 5), turned(numbers(0, 5))
	tight, to, _ := token.Tight(next)
	ring, _ := token.Ring(next, at, wants)
	fill, _ := token.Fill(next, 0)
	moves := slices.Concat(route(0, 0, 1), route(1, 0))
	replay, _ := token.Replay(next, moves)
	free, _ := token.Free(next, []int{3, 0}, []int{-1, 1})
	_, _ = append(tight, 7, 7, 7), append(ring, 7, 7, 7)
	for _, list := range [][]int{tight, ring, replay, free} {
		clear(list[:cap(list)])
	}
	clear(fill[:cap(fill)])
	if !slices.Equal(to, wants) || !slices.Equal(moves, slices.Concat(route(0, 0, 1), route(1, 0))) {
		t.Errorf("a change of results changed %v, %v", to, moves)
	}
	checkPosition(t, next, at, wants, nil, numbers(0, 5))
	checkPosition(t, circle(5), at, wants, nil, numbers(0, 5))
	checkTight(t, next, at, wants, api.OK)
	checkFill(t, next, 3, slices.Concat(route(0, 3, 4, 0, 1, 2), route(1, 3, 4, 0, 1), route(2, 3, 4, 0), route(3, 3, 4), route(4, 3)), api.OK)
	ring, _ = token.Ring(next, at, wants)
	replay, _ = token.Replay(next, moves)
	for _, list := range append(next, at, wants) {
		clear(list)
	}
	clear(moves)
	if !slices.Equal(ring, numbers(0, 5)) || !slices.Equal(replay, []int{1, 0}) {
		t.Errorf("a change of the arguments changed the results to %v, %v", ring, replay)
	}
}

// R2: arguments are left as they were, also behind their ends. R6: a second call has the same result.
func TestArgumentsKept(t *testing.T) {
	edges := []int{1, 9, 2, 9, 0, 9}
	rows := [][]int{edges[:1], edges[2:3], edges[4:5], {9}}
	at, wants := []int{2, 1, 0, 9}, []int{0, 2, 1, 9}
	moves := append(route(0, 2, 0), api.Move{Token: 9})
	for range 2 {
		checkPosition(t, rows[:3], at[:3], wants[:3], nil, []int{0, 2, 1})
		checkTight(t, rows[:3], []int{0, 1, 2}, []int{1, 2, 0}, api.OK)
		checkFill(t, rows[:3], 1, slices.Concat(route(0, 1, 2, 0), route(1, 1, 2), route(2, 1)), api.OK)
		checkReplay(t, rows[:3], moves[:2], []int{0}, api.OK)
	}
	if !slices.Equal(edges, []int{1, 9, 2, 9, 0, 9}) || !slices.Equal(at, []int{2, 1, 0, 9}) || !slices.Equal(wants, []int{0, 2, 1, 9}) ||
		!slices.Equal(moves, append(route(0, 2, 0), api.Move{Token: 9})) || !slices.Equal(rows[3], []int{9}) {
		t.Errorf("the arguments were changed to %v, %v, %v, %v, %v", edges, rows, at, wants, moves)
	}
}
