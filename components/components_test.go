package components_test

import (
	"fmt"
	"math"
	"math/rand/v2"
	"slices"
	"testing"

	"blockway/api"
	"blockway/components"
)

// sameGraph treats nil and empty lists alike.
func sameGraph(a, b [][]int) bool {
	return slices.EqualFunc(a, b, slices.Equal)
}

// short keeps the messages of tests with long arguments readable.
func short(x any) string {
	return fmt.Sprintf("%.400s", fmt.Sprintf("%v", x))
}

func checkNames(t *testing.T, next [][]int, shut []bool, want []int) {
	t.Helper()
	got, e := components.Names(next, shut)
	if e != api.OK || !slices.Equal(got, want) {
		t.Errorf("Names(%s, %v) = %v, %d, want %v, 0", short(next), shut, got, e, want)
	}
}

func checkOrder(t *testing.T, next [][]int, shut []bool, want []int) {
	t.Helper()
	got, e := components.Order(next, shut)
	if e != api.OK || !slices.Equal(got, want) {
		t.Errorf("Order(%s, %v) = %v, %d, want %v, 0", short(next), shut, got, e, want)
	}
}

func checkQuotient(t *testing.T, next [][]int, shut []bool, want [][]int) {
	t.Helper()
	got, e := components.Quotient(next, shut)
	if e != api.OK || !sameGraph(got, want) {
		t.Errorf("Quotient(%s, %v) = %v, %d, want %v, 0", short(next), shut, got, e, want)
	}
}

func checkErrors(t *testing.T, next [][]int, shut []bool, want api.Errno) {
	t.Helper()
	if got, e := components.Names(next, shut); e != want || len(got) != 0 {
		t.Errorf("Names(%s, %s) = %s, %d, want none, %d", short(next), short(shut), short(got), e, want)
	}
	if got, e := components.Order(next, shut); e != want || len(got) != 0 {
		t.Errorf("Order(%s, %s) = %s, %d, want none, %d", short(next), short(shut), short(got), e, want)
	}
	if got, e := components.Quotient(next, shut); e != want || len(got) != 0 {
		t.Errorf("Quotient(%s, %s) = %s, %d, want none, %d", short(next), short(shut), short(got), e, want)
	}
}

// circle is the graph in which each of n vertices leads to the next one, and the last one to the first one.
func circle(n int) [][]int {
	next := make([][]int, n)
	for v := range next {
		next[v] = []int{(v + 1) % n}
	}
	return next
}

// complete is the graph with all edges of n vertices.
func complete(n int) [][]int {
	next := make([][]int, n)
	for v := range next {
		for to := range n {
			if to != v {
				next[v] = append(next[v], to)
			}
		}
	}
	return next
}

// upward is the graph in which each of n vertices has edges to all later ones, downward the one with all earlier ones.
func upward(n int) [][]int {
	next := make([][]int, n)
	for v := range next {
		for to := v + 1; to < n; to++ {
			next[v] = append(next[v], to)
		}
	}
	return next
}

func downward(n int) [][]int {
	next := make([][]int, n)
	for v := range next {
		next[v] = numbers(v)
	}
	return next
}

// numbers returns the numbers below n.
func numbers(n int) []int {
	var list []int
	for v := range n {
		list = append(list, v)
	}
	return list
}

func backward(list []int) []int {
	list = slices.Clone(list)
	slices.Reverse(list)
	return list
}

// example is a graph with its components.
type example struct {
	next         [][]int
	shut         []bool
	names, order []int
	quotient     [][]int
}

func examples() []example {
	const T, F = true, false
	pairs := [][]int{{1, 4}, {0}, {3}, {2, 4, 5}, {5}, {0, 4}, {0, 2, 7}, {3, 6}} // {0, 1, 4, 5}, {2, 3}, {6, 7}
	return []example{
		{[][]int{{1}, {0, 2}, {}}, []bool{F, F, F}, []int{0, 0, 2}, []int{0, 2}, [][]int{{2}, {}, {}}}, // the chapter's example
		{nil, nil, nil, nil, nil},
		{[][]int{}, []bool{}, nil, nil, nil},
		{[][]int{nil}, []bool{F}, []int{0}, []int{0}, [][]int{{}}},
		{[][]int{{}}, []bool{T}, []int{-1}, nil, [][]int{{}}},
		{[][]int{{1}, {0}}, []bool{F, F}, []int{0, 0}, []int{0}, [][]int{{}, {}}},
		{[][]int{{1}, {0}}, []bool{T, F}, []int{-1, 1}, []int{1}, [][]int{{}, {}}},
		{[][]int{{1}, {0}}, []bool{T, T}, []int{-1, -1}, nil, [][]int{{}, {}}},
		{[][]int{{}, {0}}, []bool{F, F}, []int{0, 1}, []int{1, 0}, [][]int{{}, {0}}},
		// A shut vertex parts what it joined, and is no part of a path.
		{[][]int{{1}, {2}, {0}}, []bool{F, T, F}, []int{0, -1, 2}, []int{2, 0}, [][]int{{}, {}, {0}}},
		{[][]int{{}, {0, 2}, {1}, {2}}, []bool{F, F, T, F}, []int{0, 1, -1, 3}, []int{1, 0, 3}, [][]int{{}, {0}, {}, {}}},
		// The name is the least vertex, also where another one was found first.
		{[][]int{{3}, {2}, {1}, {2}}, make([]bool, 4), []int{0, 1, 1, 3}, []int{0, 3, 1}, [][]int{{3}, {}, {}, {1}}},
		{[][]int{{2}, {}, {3}, {1, 2}}, []bool{T, F, F, F}, []int{-1, 1, 2, 2}, []int{2, 1}, [][]int{{}, {}, {1}, {}}},
		// Many edges between two components count as one; edges within a component do not count.
		{pairs, make([]bool, 8), []int{0, 0, 2, 2, 0, 0, 6, 6}, []int{6, 2, 0}, [][]int{{}, {}, {0}, {}, {}, {}, {0, 2}, {}}},
		{pairs, []bool{F, F, F, T, F, F, F, F}, []int{0, 0, 2, -1, 0, 0, 6, 6}, []int{6, 0, 2}, [][]int{{}, {}, {}, {}, {}, {}, {0, 2}, {}}},
		// A name ascends in the quotient though the edges lead to other vertices of its component.
		{[][]int{{1}, {2, 3}, {4}, {5}, {2}, {3}}, make([]bool, 6), []int{0, 1, 2, 3, 2, 3}, []int{0, 1, 2, 3}, [][]int{{1}, {2, 3}, {}, {}, {}, {}}},
		{[][]int{{3}, {2}, {1}, {0}, {2, 3}}, make([]bool, 5), []int{0, 1, 1, 0, 4}, []int{4, 0, 1}, [][]int{{}, {}, {}, {}, {0, 1}}},
		// The quotient has edges only, though 0 reaches 2 on a path as well.
		{[][]int{{1}, {2}, {}}, make([]bool, 3), []int{0, 1, 2}, []int{0, 1, 2}, [][]int{{1}, {2}, {}}},
		{[][]int{{1, 2}, {2}, {}}, make([]bool, 3), []int{0, 1, 2}, []int{0, 1, 2}, [][]int{{1, 2}, {2}, {}}},
		// The least name that may come next does come next, also if it became possible only now.
		{[][]int{{}, {}, {}}, make([]bool, 3), []int{0, 1, 2}, []int{0, 1, 2}, [][]int{{}, {}, {}}},
		{[][]int{{}, {}, {0}, {}}, make([]bool, 4), []int{0, 1, 2, 3}, []int{1, 2, 0, 3}, [][]int{{}, {}, {0}, {}}},
		{[][]int{{3}, {}, {1}, {}}, make([]bool, 4), []int{0, 1, 2, 3}, []int{0, 2, 1, 3}, [][]int{{3}, {}, {1}, {}}},
		{[][]int{{}, {0}, {0}, {1, 2}, {}}, make([]bool, 5), []int{0, 1, 2, 3, 4}, []int{3, 1, 2, 0, 4}, [][]int{{}, {0}, {0}, {1, 2}, {}}},
	}
}

// P5.1: the names of components.
func TestNames(t *testing.T) {
	for _, c := range examples() {
		checkNames(t, c.next, c.shut, c.names)
	}
}

// P5.2: the order of components.
func TestOrder(t *testing.T) {
	for _, c := range examples() {
		checkOrder(t, c.next, c.shut, c.order)
	}
}

// P5.3: the edges between components.
func TestQuotient(t *testing.T) {
	for _, c := range examples() {
		checkQuotient(t, c.next, c.shut, c.quotient)
	}
}

// P5.1 to P5.3: as many vertices and edges as there may be.
func TestLimits(t *testing.T) {
	const n = api.MaxBlocks
	open, shut, none := make([]bool, n), slices.Repeat([]bool{true}, n), make([][]int, n)
	check := func(next [][]int, shut []bool, names, order []int, quotient [][]int) {
		t.Helper()
		checkNames(t, next, shut, names)
		checkOrder(t, next, shut, order)
		checkQuotient(t, next, shut, quotient)
	}
	check(none, open, numbers(n), numbers(n), none)
	check(circle(n), open, make([]int, n), []int{0}, none)
	check(complete(n), open, make([]int, n), []int{0}, none)
	check(complete(n), shut, slices.Repeat([]int{-1}, n), nil, none)
	check(upward(n), open, numbers(n), numbers(n), upward(n))
	check(downward(n), open, numbers(n), backward(numbers(n)), downward(n))
	shut[n-1] = false
	names := slices.Repeat([]int{-1}, n)
	names[n-1] = n - 1
	check(complete(n), shut, names, []int{n - 1}, none)
}

// P5.1 to P5.3: graphs that are not valid; ErrInvalid comes before ErrRange.
func TestNotValid(t *testing.T) {
	const n = api.MaxBlocks + 1
	for _, next := range [][][]int{
		{{0}},
		{{1}},
		{{-1}},
		{{math.MaxInt}},
		{{math.MinInt}},
		{{1}, {1}},
		{{1}, {-1, 0}},
		{{1}, {0, 2}},
		{{1, 1}, {0}},
		{{2, 1}, {}, {}},
		{{1, 2, 3}, {}, {}},
		{{}, make([]int, 1e6)},
		make([][]int, n),
		circle(n),
		complete(n),
		make([][]int, 1e6),
	} {
		for _, m := range []int{len(next), 0, len(next) + 1} {
			checkErrors(t, next, make([]bool, m), api.ErrInvalid)
		}
		checkErrors(t, next, slices.Repeat([]bool{true}, len(next)), api.ErrInvalid)
	}
}

// P5.1 to P5.3: shut vertices that are not as many as the vertices.
func TestShutLength(t *testing.T) {
	for _, n := range []int{0, 1, 2, 3, api.MaxBlocks} {
		for _, m := range []int{0, 1, 2, 3, api.MaxBlocks, api.MaxBlocks + 1, 1e6} {
			if m != n {
				checkErrors(t, make([][]int, n), make([]bool, m), api.ErrRange)
			}
		}
	}
	checkErrors(t, circle(3), nil, api.ErrRange)
	checkErrors(t, circle(3), []bool{false, false}, api.ErrRange)
	checkErrors(t, circle(3), []bool{true, true, true, true}, api.ErrRange)
}

// reaching says of each vertex which vertices it reaches: the closure of the edges between open vertices.
func reaching(next [][]int, shut []bool) [][]bool {
	l := make([][]bool, len(next))
	for v, list := range next {
		l[v] = make([]bool, len(next))
		l[v][v] = !shut[v]
		for _, to := range list {
			l[v][to] = !shut[v] && !shut[to]
		}
	}
	for k := range l {
		for v := range l {
			for u := range l {
				l[v][u] = l[v][u] || l[v][k] && l[k][u]
			}
		}
	}
	return l
}

// namesModel finds for each vertex the least one that it reaches and that reaches it.
func namesModel(l [][]bool) []int {
	names := make([]int, len(l))
	for v := range l {
		names[v] = slices.IndexFunc(numbers(len(l)), func(u int) bool { return l[v][u] && l[u][v] })
	}
	return names
}

// orderModel is the chapter's rule: a component leads to another one if a path does.
func orderModel(names []int, l [][]bool) []int {
	var order []int
	waits := func(name int) bool {
		for u, other := range names {
			if other >= 0 && other != name && l[u][name] && !slices.Contains(order, other) {
				return true
			}
		}
		return false
	}
	for {
		name := slices.IndexFunc(numbers(len(names)), func(v int) bool {
			return names[v] == v && !slices.Contains(order, v) && !waits(v)
		})
		if name < 0 {
			return order
		}
		order = append(order, name)
	}
}

// quotientModel asks for each pair of names whether there is an edge.
func quotientModel(next [][]int, names []int) [][]int {
	leads := func(from, to int) bool {
		for v, list := range next {
			if names[v] == from && slices.ContainsFunc(list, func(u int) bool { return names[u] == to }) {
				return true
			}
		}
		return false
	}
	quotient := make([][]int, len(next))
	for from := range next {
		for to := range next {
			if from != to && leads(from, to) {
				quotient[from] = append(quotient[from], to)
			}
		}
	}
	return quotient
}

// checkModel checks all promises of a graph with shut vertices, and the chapter's consequences.
func checkModel(t *testing.T, next [][]int, shut []bool) {
	t.Helper()
	l := reaching(next, shut)
	names := namesModel(l)
	order := orderModel(names, l)
	quotient := quotientModel(next, names)
	checkNames(t, next, shut, names)
	checkOrder(t, next, shut, order)
	checkQuotient(t, next, shut, quotient)
	// The quotient has no closed walks: each of its vertices is a component of its own.
	checkNames(t, quotient, make([]bool, len(next)), numbers(len(next)))
	for i, later := range order {
		for _, earlier := range order[:i] {
			if l[later][earlier] {
				t.Errorf("in %v with %v shut, %d leads to %d, which comes before it", next, shut, later, earlier)
			}
		}
	}
}

// graphOf returns the graph of n vertices that has the edges of the ones of a number.
func graphOf(n, bits int) [][]int {
	next := complete(n)
	for v := range next {
		var list []int
		for _, to := range next[v] {
			if bits&1 == 1 {
				list = append(list, to)
			}
			bits >>= 1
		}
		next[v] = list
	}
	return next
}

// P5.1 to P5.3: all graphs of at most four vertices, with all choices of shut vertices.
func TestAgainstModel(t *testing.T) {
	for n := range 5 {
		for bits := range 1 << (n * (n - 1)) {
			next := graphOf(n, bits)
			for choice := range 1 << n {
				shut := make([]bool, n)
				for v := range shut {
					shut[v] = choice>>v&1 == 1
				}
				checkModel(t, next, shut)
			}
		}
	}
}

// P5.1 to P5.3: graphs with more vertices, sparse and dense, of a fixed seed.
func TestAgainstModelLarge(t *testing.T) {
	random := rand.New(rand.NewPCG(5, 5))
	for range 3000 {
		n := 1 + random.IntN(api.MaxBlocks)
		edges, closed := random.IntN(5), random.IntN(4)
		next, shut := complete(n), make([]bool, n)
		for v := range next {
			next[v] = slices.DeleteFunc(next[v], func(int) bool { return random.IntN(n) >= edges })
			shut[v] = random.IntN(8) < closed
		}
		checkModel(t, next, shut)
	}
}

// R2: a result shares no memory with the arguments or another result, and its lists none with each other.
func TestNewMemory(t *testing.T) {
	next, shut := upward(5), make([]bool, 5)
	got, _ := components.Quotient(next, shut)
	for v := range got {
		_ = append(got[v], 7, 7, 7, 7)
	}
	if !sameGraph(got, upward(5)) {
		t.Errorf("after its lists grew the result of Quotient is %v", got)
	}
	for _, list := range got {
		clear(list[:cap(list)])
	}
	names, _ := components.Names(next, shut)
	clear(names)
	order, _ := components.Order(next, shut)
	clear(order)
	if !sameGraph(next, upward(5)) || slices.Contains(shut, true) {
		t.Errorf("a change of results changed the arguments to %v, %v", next, shut)
	}
	got, _ = components.Quotient(next, shut)
	for _, list := range next {
		clear(list)
	}
	clear(next)
	if !sameGraph(got, upward(5)) {
		t.Errorf("a change of the graph changed the result of Quotient to %v", got)
	}
	checkNames(t, upward(5), shut, numbers(5))
	checkOrder(t, upward(5), shut, numbers(5))
}

// R2: arguments are left as they were, also behind their ends. R6: a second call has the same result.
func TestArgumentsKept(t *testing.T) {
	const T, F = true, false
	edges := []int{1, 2, 9, 0, 9, 0, 1, 9}
	rows := [][]int{edges[:2], edges[3:4], edges[5:7], edges[7:7], {9}}
	shut := []bool{F, F, T, F, T}
	for range 2 {
		checkNames(t, rows[:4], shut[:4], []int{0, 0, -1, 3})
		checkOrder(t, rows[:4], shut[:4], []int{0, 3})
		checkQuotient(t, rows[:4], shut[:4], make([][]int, 4))
	}
	if !slices.Equal(edges, []int{1, 2, 9, 0, 9, 0, 1, 9}) || !slices.Equal(shut, []bool{F, F, T, F, T}) || !sameGraph(rows, [][]int{{1, 2}, {0}, {0, 1}, {}, {9}}) {
		t.Errorf("the arguments were changed to %v, %v, %v", edges, rows, shut)
	}
}
