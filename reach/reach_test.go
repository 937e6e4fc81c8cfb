package reach_test

import (
	"fmt"
	"math"
	"math/rand/v2"
	"slices"
	"testing"

	"blockway/api"
	"blockway/reach"
)

// sameGraph treats nil and empty lists alike.
func sameGraph(a, b [][]int) bool {
	return slices.EqualFunc(a, b, slices.Equal)
}

// cloneGraph returns a graph that shares no memory with next.
func cloneGraph(next [][]int) [][]int {
	var c [][]int
	for _, list := range next {
		c = append(c, slices.Clone(list))
	}
	return c
}

// short keeps the messages of tests with long arguments readable.
func short(x any) string {
	return fmt.Sprintf("%.400s", fmt.Sprintf("%v", x))
}

func checkReverse(t *testing.T, next, want [][]int) {
	t.Helper()
	if !reach.Valid(next) {
		t.Errorf("Valid(%s) is false", short(next))
	}
	got, e := reach.Reverse(next)
	if e != api.OK || !sameGraph(got, want) {
		t.Errorf("Reverse(%s) = %s, %d, want %s, 0", short(next), short(got), e, short(want))
	}
}

func checkFrom(t *testing.T, next [][]int, shut []bool, v int, want []bool) {
	t.Helper()
	got, e := reach.From(next, shut, v)
	if e != api.OK || !slices.Equal(got, want) {
		t.Errorf("From(%s, %v, %d) = %v, %d, want %v, 0", short(next), shut, v, got, e, want)
	}
}

func checkMutual(t *testing.T, next [][]int, shut []bool, want bool) {
	t.Helper()
	got, e := reach.Mutual(next, shut)
	if e != api.OK || got != want {
		t.Errorf("Mutual(%s, %v) = %v, %d, want %v, 0", short(next), shut, got, e, want)
	}
}

func checkWithout(t *testing.T, next [][]int, shut []bool, want [][]int) {
	t.Helper()
	got, e := reach.Without(next, shut)
	if e != api.OK || !sameGraph(got, want) {
		t.Errorf("Without(%s, %v) = %s, %d, want %s, 0", short(next), shut, short(got), e, short(want))
	}
}

func checkFromError(t *testing.T, next [][]int, shut []bool, v int, want api.Errno) {
	t.Helper()
	got, e := reach.From(next, shut, v)
	if e != want || len(got) != 0 {
		t.Errorf("From(%s, %s, %d) = %s, %d, want none, %d", short(next), short(shut), v, short(got), e, want)
	}
}

// checkErrors checks the error of the functions that have shut vertices.
func checkErrors(t *testing.T, next [][]int, shut []bool, want api.Errno) {
	t.Helper()
	for _, v := range []int{0, -1, len(next), math.MaxInt, math.MinInt} {
		checkFromError(t, next, shut, v, want)
	}
	if ok, e := reach.Mutual(next, shut); e != want || ok {
		t.Errorf("Mutual(%s, %s) = %v, %d, want false, %d", short(next), short(shut), ok, e, want)
	}
	if got, e := reach.Without(next, shut); e != want || len(got) != 0 {
		t.Errorf("Without(%s, %s) = %s, %d, want none, %d", short(next), short(shut), short(got), e, want)
	}
}

// checkNotValid checks a graph that is not valid with fitting and other shut vertices.
func checkNotValid(t *testing.T, next [][]int) {
	t.Helper()
	if reach.Valid(next) {
		t.Errorf("Valid(%s) is true", short(next))
	}
	if got, e := reach.Reverse(next); e != api.ErrInvalid || len(got) != 0 {
		t.Errorf("Reverse(%s) = %s, %d, want none, %d", short(next), short(got), e, api.ErrInvalid)
	}
	for _, n := range []int{len(next), 0, len(next) + 1} {
		checkErrors(t, next, make([]bool, n), api.ErrInvalid)
	}
}

// circle is the graph in which each of n vertices leads to the next one, and the last one to the first one.
func circle(n int) [][]int {
	next := make([][]int, n)
	for v := range next {
		next[v] = []int{(v + 1) % n}
	}
	return next
}

// line is the graph in which each of n vertices but the last one leads to the next one.
func line(n int) [][]int {
	next := circle(n)
	next[n-1] = nil
	return next
}

// complete is the graph with all edges of n vertices.
func complete(n int) [][]int {
	next := make([][]int, n)
	for v := range next {
		for to := range n {
			if to != v {
				next[v] = append(next[v], to)
			}
		}
	}
	return next
}

// shutOnes returns n elements, of which these are true.
func shutOnes(n int, ones ...int) []bool {
	shut := make([]bool, n)
	for _, v := range ones {
		shut[v] = true
	}
	return shut
}

// P4.1: graphs that are valid, with their edges turned round.
func TestReverse(t *testing.T) {
	checkReverse(t, nil, nil)
	checkReverse(t, [][]int{}, nil)
	checkReverse(t, [][]int{nil}, [][]int{{}})
	checkReverse(t, [][]int{{}, nil}, [][]int{{}, {}})
	checkReverse(t, [][]int{{1}, {0}}, [][]int{{1}, {0}})
	checkReverse(t, [][]int{{1}, {}}, [][]int{{}, {0}})
	checkReverse(t, circle(3), [][]int{{2}, {0}, {1}})
	checkReverse(t, [][]int{{1, 2}, {2}, {0}}, [][]int{{2}, {0}, {0, 1}})
	checkReverse(t, [][]int{{3}, {0, 2, 3}, {0}, {}}, [][]int{{1, 2}, {}, {1}, {0, 1}})
	checkReverse(t, [][]int{{1, 2, 3, 4, 5}, {}, {}, {}, {}, {}}, [][]int{{}, {0}, {0}, {0}, {0}, {0}})
}

// P4.1: the limit of the vertices; there is none of the edges of a vertex but these vertices.
func TestReverseLimits(t *testing.T) {
	const n = api.MaxBlocks
	checkReverse(t, make([][]int, n), make([][]int, n))
	checkReverse(t, complete(n), complete(n))
	want := make([][]int, n)
	for v := range want {
		want[v] = []int{(v + n - 1) % n}
	}
	checkReverse(t, circle(n), want)
	checkNotValid(t, make([][]int, n+1))
	checkNotValid(t, circle(n+1))
	checkNotValid(t, complete(n+1))
	checkNotValid(t, make([][]int, 1e6))
}

// P4.1: graphs that are not valid. P4.2, P4.3: ErrInvalid comes before ErrRange.
func TestNotValid(t *testing.T) {
	for _, next := range [][][]int{
		{{0}},
		{{1}},
		{{-1}},
		{{math.MaxInt}},
		{{math.MinInt}},
		{{1}, {1}},
		{{1}, {0, 1}},
		{{1}, {0, 2}},
		{{1}, {-1, 0}},
		{{1, 1}, {0}},
		{{1}, {2}, {1, 0}},
		{{2, 1}, {}, {}},
		{{1, 2, 2}, {}, {}},
		{{1, 2, 1}, {}, {}},
		{{1, 1, 2}, {}, {}},
		{{1, 2, 3}, {}, {}},
		{{1, math.MaxInt}, {}, {}},
		{{}, {}, {0, 1, 2}},
		{{}, {}, {0, 2}},
		{make([]int, 1e6), {}},
		{{}, make([]int, 1e6)},
	} {
		checkNotValid(t, next)
	}
}

// validModel is the definition of a valid graph of few vertices.
func validModel(next [][]int) bool {
	for v, list := range next {
		for i, to := range list {
			if to < 0 || to > len(next)-1 || to == v {
				return false
			}
			for _, other := range list[i+1:] {
				if other <= to {
					return false
				}
			}
		}
	}
	return true
}

// allLists returns all lists of at most so many numbers from -1 to n.
func allLists(n, most int) [][]int {
	lists := [][]int{nil}
	for i := 0; i < len(lists) && len(lists[i]) < most; i++ {
		for to := -1; to <= n; to++ {
			lists = append(lists, append(slices.Clone(lists[i]), to))
		}
	}
	return lists
}

// P4.1: all short lists of one, two and three vertices.
func TestValidModel(t *testing.T) {
	check := func(next ...[]int) {
		if want := validModel(next); !want {
			checkNotValid(t, next)
		} else if !reach.Valid(next) {
			t.Errorf("Valid(%v) is false", next)
		}
	}
	for _, a := range allLists(1, 3) {
		check(a)
	}
	for _, a := range allLists(2, 3) {
		for _, b := range allLists(2, 3) {
			check(a, b)
		}
	}
	for _, a := range allLists(3, 2) {
		for _, b := range allLists(3, 2) {
			for _, c := range allLists(3, 2) {
				check(a, b, c)
			}
		}
	}
}

// P4.2: the example of the chapter, and graphs in which reaching has a direction.
func TestFrom(t *testing.T) {
	const T, F = true, false
	open, shut := []bool{F, F, F}, []bool{F, T, F}
	for v := range 3 {
		checkFrom(t, circle(3), open, v, []bool{T, T, T})
	}
	checkFrom(t, circle(3), shut, 0, []bool{T, F, F})
	checkFrom(t, circle(3), shut, 1, []bool{F, F, F})
	checkFrom(t, circle(3), shut, 2, []bool{T, F, T})
	checkFrom(t, circle(3), []bool{T, T, T}, 0, []bool{F, F, F})
	checkFrom(t, line(3), open, 0, []bool{T, T, T})
	checkFrom(t, line(3), open, 1, []bool{F, T, T})
	checkFrom(t, line(3), open, 2, []bool{F, F, T})
	checkFrom(t, make([][]int, 3), open, 1, []bool{F, T, F})
	checkFrom(t, [][]int{{}}, []bool{F}, 0, []bool{T})
	checkFrom(t, [][]int{nil}, []bool{T}, 0, []bool{F})
	// One way round a shut vertex, and one that only leads back to it.
	ways := [][]int{{1, 2}, {3}, {0}, {}}
	checkFrom(t, ways, []bool{F, F, T, F}, 0, []bool{T, T, F, T})
	checkFrom(t, ways, []bool{F, T, F, F}, 0, []bool{T, F, T, F})
	checkFrom(t, ways, []bool{T, F, F, F}, 2, []bool{F, F, T, F})
	checkFrom(t, ways, []bool{F, F, F, T}, 2, []bool{T, T, T, F})
}

// P4.2: as many vertices as there may be.
func TestFromLimits(t *testing.T) {
	const n = api.MaxBlocks
	for v := range n {
		var after []int
		for u := v; u < n; u++ {
			after = append(after, u)
		}
		checkFrom(t, line(n), make([]bool, n), v, shutOnes(n, after...))
		checkFrom(t, circle(n), shutOnes(n, n-1), v, shutOnes(n, after[:len(after)-1]...))
	}
	all := slices.Repeat([]bool{true}, n)
	checkFrom(t, complete(n), make([]bool, n), n-1, all)
	checkFrom(t, complete(n), all, n-1, make([]bool, n))
	all[0] = false
	checkFrom(t, complete(n), shutOnes(n, 0), n-1, all)
}

// P4.2: graphs whose open vertices reach each other, and others.
func TestMutual(t *testing.T) {
	const T, F = true, false
	for _, c := range []struct {
		next [][]int
		shut []bool
		want bool
	}{
		{nil, nil, F},
		{[][]int{}, []bool{}, F},
		{[][]int{{}}, []bool{F}, T},
		{[][]int{{}}, []bool{T}, F},
		{[][]int{{}, {}}, []bool{F, F}, F},
		{[][]int{{}, {}}, []bool{F, T}, T},
		{[][]int{{}, {}}, []bool{T, F}, T},
		{[][]int{{}, {}}, []bool{T, T}, F},
		{[][]int{{1}, {0}}, []bool{F, F}, T},
		{[][]int{{1}, {}}, []bool{F, F}, F},
		{[][]int{{}, {0}}, []bool{F, F}, F},
		{circle(3), []bool{F, F, F}, T},
		{circle(3), []bool{F, T, F}, F},
		{circle(3), []bool{T, F, T}, T},
		{circle(3), []bool{T, T, T}, F},
		{line(3), []bool{F, F, F}, F},
		{[][]int{{1}, {0}, {0}}, []bool{F, F, F}, F},
		{[][]int{{1, 2}, {0}, {}}, []bool{F, F, F}, F},
		{[][]int{{1}, {0}, {0}}, []bool{F, F, T}, T},
		{[][]int{{1}, {0}, {3}, {2}}, []bool{F, F, F, F}, F},
		{[][]int{{1}, {0}, {3}, {2}}, []bool{T, T, F, F}, T},
		{[][]int{{1, 2}, {0}, {0}}, []bool{T, F, F}, F},
		{circle(api.MaxBlocks), make([]bool, api.MaxBlocks), T},
		{circle(api.MaxBlocks), shutOnes(api.MaxBlocks, api.MaxBlocks-1), F},
		{line(api.MaxBlocks), make([]bool, api.MaxBlocks), F},
		{complete(api.MaxBlocks), shutOnes(api.MaxBlocks, 0, 5, api.MaxBlocks-1), T},
	} {
		checkMutual(t, c.next, c.shut, c.want)
	}
}

// P4.3: edges from and to shut vertices are gone, the vertices stay.
func TestWithout(t *testing.T) {
	const T, F = true, false
	next := [][]int{{1, 2}, {2}, {0}}
	for _, c := range []struct {
		shut []bool
		want [][]int
	}{
		{[]bool{F, F, F}, next},
		{[]bool{T, F, F}, [][]int{{}, {2}, {}}},
		{[]bool{F, T, F}, [][]int{{2}, {}, {0}}},
		{[]bool{F, F, T}, [][]int{{1}, {}, {}}},
		{[]bool{T, T, F}, [][]int{{}, {}, {}}},
		{[]bool{T, T, T}, [][]int{{}, {}, {}}},
	} {
		checkWithout(t, next, c.shut, c.want)
	}
	checkWithout(t, nil, nil, nil)
	checkWithout(t, [][]int{nil}, []bool{T}, [][]int{{}})
	const n = api.MaxBlocks
	checkWithout(t, complete(n), make([]bool, n), complete(n))
	want := append(complete(n-1), nil)
	checkWithout(t, complete(n), shutOnes(n, n-1), want)
}

// P4.2, P4.3: shut vertices that are not as many as the vertices.
func TestShutLength(t *testing.T) {
	for _, n := range []int{0, 1, 2, 3, api.MaxBlocks} {
		for _, m := range []int{0, 1, 2, 3, api.MaxBlocks, api.MaxBlocks + 1, 1e6} {
			if m != n {
				checkErrors(t, make([][]int, n), make([]bool, m), api.ErrRange)
			}
		}
	}
	checkErrors(t, circle(3), []bool{false, false}, api.ErrRange)
	checkErrors(t, circle(3), []bool{true, true, true, true}, api.ErrRange)
	checkErrors(t, circle(3), nil, api.ErrRange)
}

// P4.2: arguments that are not vertices.
func TestFromRange(t *testing.T) {
	for _, n := range []int{0, 1, 3, api.MaxBlocks} {
		for _, v := range []int{-1, n, n + 1, api.MaxBlocks, api.MaxBlocks + 1, 1 << 32, math.MaxInt, math.MinInt} {
			checkFromError(t, make([][]int, n), make([]bool, n), v, api.ErrRange)
			checkFromError(t, make([][]int, n), slices.Repeat([]bool{true}, n), v, api.ErrRange)
		}
	}
}

// table has an element for each pair of vertices.
type table [][]bool

func newTable(n int) table {
	l := make(table, n)
	for v := range l {
		l[v] = make([]bool, n)
	}
	return l
}

// reaching is the closure of the edges between open vertices.
func reaching(next [][]int, shut []bool) table {
	l := newTable(len(next))
	for v, list := range next {
		l[v][v] = !shut[v]
		for _, to := range list {
			l[v][to] = !shut[v] && !shut[to]
		}
	}
	for k := range l {
		for v := range l {
			for u := range l {
				l[v][u] = l[v][u] || l[v][k] && l[k][u]
			}
		}
	}
	return l
}

// without leaves the edges out one by one.
func without(next [][]int, shut []bool) [][]int {
	rest := cloneGraph(next)
	for v := range rest {
		rest[v] = slices.DeleteFunc(rest[v], func(to int) bool { return shut[v] || shut[to] })
	}
	return rest
}

// turned has an edge from u to v for each one from v to u.
func turned(next [][]int) [][]int {
	l := make([][]int, len(next))
	for u := range next {
		for v, list := range next {
			if slices.Contains(list, u) {
				l[u] = append(l[u], v)
			}
		}
	}
	return l
}

// checkModel checks all promises of a graph with shut vertices.
func checkModel(t *testing.T, next [][]int, shut []bool) {
	t.Helper()
	l := reaching(next, shut)
	back := turned(next)
	mutual := slices.Contains(shut, false)
	for v := range next {
		checkFrom(t, next, shut, v, l[v])
		var to []bool
		for u := range next {
			to = append(to, l[u][v])
			mutual = mutual && (shut[v] || shut[u] || l[v][u])
		}
		checkFrom(t, back, shut, v, to)
	}
	checkMutual(t, next, shut, mutual)
	checkMutual(t, back, shut, mutual)
	checkWithout(t, next, shut, without(next, shut))
	checkReverse(t, next, back)
	checkReverse(t, back, next)
}

// allShut calls a function with all choices of shut vertices.
func allShut(n int, f func(shut []bool)) {
	for bits := range 1 << n {
		shut := make([]bool, n)
		for v := range shut {
			shut[v] = bits>>v&1 == 1
		}
		f(shut)
	}
}

// graphOf returns the graph of n vertices that has the edges of the ones of a number.
func graphOf(n, bits int) [][]int {
	next := complete(n)
	for v := range next {
		var list []int
		for _, to := range next[v] {
			if bits&1 == 1 {
				list = append(list, to)
			}
			bits >>= 1
		}
		next[v] = list
	}
	return next
}

// P4.1 to P4.3: all graphs of at most four vertices, with all choices of shut vertices.
func TestAgainstModel(t *testing.T) {
	for n := range 5 {
		for bits := range 1 << (n * (n - 1)) {
			next := graphOf(n, bits)
			allShut(n, func(shut []bool) { checkModel(t, next, shut) })
		}
	}
}

// P4.1 to P4.3: graphs with more vertices, sparse and dense, of a fixed seed.
func TestAgainstModelLarge(t *testing.T) {
	random := rand.New(rand.NewPCG(4, 4))
	for range 3000 {
		n := 1 + random.IntN(api.MaxBlocks)
		edges, closed := random.IntN(5), random.IntN(4)
		next, shut := complete(n), make([]bool, n)
		for v := range next {
			next[v] = slices.DeleteFunc(next[v], func(int) bool { return random.IntN(n) >= edges })
			shut[v] = random.IntN(8) < closed
		}
		checkModel(t, next, shut)
	}
}

// P4.2: shutting a vertex never makes more reachable.
func TestShuttingReachesLess(t *testing.T) {
	for bits := range 1 << 6 {
		next := graphOf(3, bits)
		allShut(3, func(shut []bool) {
			for v := range next {
				more, _ := reach.From(next, shut, v)
				for also := range shut {
					fewer := slices.Clone(shut)
					fewer[also] = true
					less, _ := reach.From(next, fewer, v)
					for u := range less {
						if less[u] && !more[u] {
							t.Errorf("in %v, %d reaches %d with %v shut, but not with %v", next, v, u, fewer, shut)
						}
					}
				}
			}
		})
	}
}

// R2: a result shares no memory with the arguments, and its lists none with each other.
func TestNewMemory(t *testing.T) {
	next, shut := complete(5), make([]bool, 5)
	for name, f := range map[string]func() [][]int{
		"Reverse": func() [][]int { l, _ := reach.Reverse(next); return l },
		"Without": func() [][]int { l, _ := reach.Without(next, shut); return l },
	} {
		got := f()
		for v := range got {
			_ = append(got[v], 7, 7, 7, 7)
		}
		if !sameGraph(got, complete(5)) {
			t.Errorf("after its lists grew the result of %s is %v", name, got)
		}
		for _, list := range got {
			clear(list[:cap(list)])
		}
		clear(got)
		if !sameGraph(next, complete(5)) {
			t.Errorf("a change of the result of %s changed the graph to %v", name, next)
		}
		got = f()
		for _, list := range next {
			clear(list)
		}
		clear(next)
		if !sameGraph(got, complete(5)) {
			t.Errorf("a change of the graph changed the result of %s to %v", name, got)
		}
		next = complete(5)
	}
	got, _ := reach.From(next, shut, 0)
	clear(got)
	if other, _ := reach.From(next, shut, 0); slices.Contains(other, false) || slices.Contains(got, true) || slices.Contains(shut, true) {
		t.Errorf("results of From share memory")
	}
}

// R2: arguments are left as they were, also behind their ends. R6: a second call has the same result.
func TestArgumentsKept(t *testing.T) {
	const T, F = true, false
	edges := []int{1, 2, 9, 2, 9, 0, 9}
	rows := [][]int{edges[:2], edges[3:4], edges[5:6], {9}}
	shut := []bool{F, T, F, T}
	for range 2 {
		checkReverse(t, rows[:3], [][]int{{2}, {0}, {0, 1}})
		checkFrom(t, rows[:3], shut[:3], 0, []bool{T, F, T})
		checkMutual(t, rows[:3], shut[:3], true)
		checkWithout(t, rows[:3], shut[:3], [][]int{{2}, {}, {0}})
	}
	if !slices.Equal(edges, []int{1, 2, 9, 2, 9, 0, 9}) || !slices.Equal(shut, []bool{F, T, F, T}) || !sameGraph(rows, [][]int{{1, 2}, {2}, {0}, {9}}) {
		t.Errorf("the arguments were changed to %v, %v, %v", edges, rows, shut)
	}
}
