package plane_test

import (
	"fmt"
	"math"
	"math/rand/v2"
	"slices"
	"strings"
	"testing"
	"unsafe"

	"blockway/api"
	"blockway/plane"
)

// short keeps the messages of tests with long arguments readable.
func short(x any) string {
	return fmt.Sprintf("%.400s", fmt.Sprintf("%v", x))
}

func at(x, y int) api.Block {
	return api.Block{Name: "b", X: x, Y: y}
}

// wayOf returns the blocks of coordinates, two for each.
func wayOf(coordinates ...int) []api.Block {
	var way []api.Block
	for pair := range slices.Chunk(coordinates, 2) {
		way = append(way, at(pair[0], pair[1]))
	}
	return way
}

// sameBits tells 0 from -0, which == does not.
func sameBits(a, b complex128) bool {
	return math.Float64bits(real(a)) == math.Float64bits(real(b)) && math.Float64bits(imag(a)) == math.Float64bits(imag(b))
}

func checkAt(t *testing.T, b api.Block, want complex128) {
	t.Helper()
	if got := plane.At(b); !sameBits(got, want) {
		t.Errorf("At(%s) = %v, want %v", short(b), got, want)
	}
}

func checkStep(t *testing.T, a, b api.Block, want complex128) {
	t.Helper()
	if got := plane.Step(a, b); !sameBits(got, want) {
		t.Errorf("Step(%s, %s) = %v, want %v", short(a), short(b), got, want)
	}
}

func checkTurn(t *testing.T, a, b, c api.Block, want int, wantError api.Errno) {
	t.Helper()
	if got, e := plane.Turn(a, b, c); got != want || e != wantError {
		t.Errorf("Turn(%s, %s, %s) = %d, %d, want %d, %d", short(a), short(b), short(c), got, e, want, wantError)
	}
}

func checkTurns(t *testing.T, way []api.Block, want []int, wantError api.Errno) {
	t.Helper()
	if got, e := plane.Turns(way); !slices.Equal(got, want) || e != wantError {
		t.Errorf("Turns(%s) = %v, %d, want %v, %d", short(way), got, e, want, wantError)
	}
}

func checkArea(t *testing.T, walk []api.Block, want int, wantError api.Errno) {
	t.Helper()
	if got, e := plane.Area(walk); got != want || e != wantError {
		t.Errorf("Area(%s) = %d, %d, want %d, %d", short(walk), got, e, want, wantError)
	}
}

func checkSquare(t *testing.T, a, b api.Block, want int, wantError api.Errno) {
	t.Helper()
	if got, e := plane.Square(a, b); got != want || e != wantError {
		t.Errorf("Square(%s, %s) = %d, %d, want %d, %d", short(a), short(b), got, e, want, wantError)
	}
}

func checkRotate(t *testing.T, b api.Block, quarters int, want api.Block, wantError api.Errno) {
	t.Helper()
	if got, e := plane.Rotate(b, quarters); got != want || e != wantError {
		t.Errorf("Rotate(%s, %d) = %s, %d, want %s, %d", short(b), quarters, short(got), e, short(want), wantError)
	}
}

func checkMirror(t *testing.T, b, want api.Block, wantError api.Errno) {
	t.Helper()
	if got, e := plane.Mirror(b); got != want || e != wantError {
		t.Errorf("Mirror(%s) = %s, %d, want %s, %d", short(b), short(got), e, short(want), wantError)
	}
}

// badBlocks returns blocks that are not valid, among them some whose coordinates are small in fewer bits.
func badBlocks() []api.Block {
	var bad []api.Block
	for _, n := range []int{
		api.MaxInt + 1, -api.MaxInt - 1, 1 << 15, 1 << 16, 1 << 32, 1<<32 + 5, 5 - 1<<32, 1<<53 + 1,
		math.MaxInt, math.MinInt, math.MinInt + 1,
	} {
		bad = append(bad, at(n, 0), at(0, n), at(n, n), at(n, api.MaxInt), at(-api.MaxInt, n))
	}
	return bad
}

// gridOf returns all blocks that have two of these coordinates.
func gridOf(coordinates ...int) []api.Block {
	var grid []api.Block
	for _, x := range coordinates {
		for _, y := range coordinates {
			grid = append(grid, at(x, y))
		}
	}
	return grid
}

// edgeGrid has blocks near 0 and at the ends of the range.
func edgeGrid() []api.Block {
	const most = api.MaxInt
	return gridOf(-most, 1-most, -1, 0, 1, most-1, most)
}

// turnOf is the definition of a turn in whole numbers.
func turnOf(a, b, c api.Block) int {
	x, y, toX, toY := b.X-a.X, b.Y-a.Y, c.X-b.X, c.Y-b.Y
	cross, dot := x*toY-y*toX, x*toX+y*toY
	switch {
	case cross > 0:
		return 1
	case cross < 0:
		return 2
	case dot > 0:
		return 3
	case dot < 0:
		return 4
	}
	return 0
}

// areaOf adds up twice the signed areas of the triangles between the first corner and each edge.
func areaOf(walk []api.Block) int {
	area := 0
	for i := 2; i < len(walk); i++ {
		a, b, c := walk[0], walk[i-1], walk[i]
		area += (b.X-a.X)*(c.Y-a.Y) - (b.Y-a.Y)*(c.X-a.X)
	}
	return area
}

// randomWay returns valid blocks, near each other or far away.
func randomWay(random *rand.Rand) []api.Block {
	most := []int{1, 3, 100, api.MaxInt}[random.IntN(4)]
	way := make([]api.Block, random.IntN(api.MaxCells+1))
	for i := range way {
		way[i] = at(random.IntN(2*most+1)-most, random.IntN(2*most+1)-most)
	}
	return way
}

// P8.1: the points of blocks, with any name.
func TestAt(t *testing.T) {
	checkAt(t, at(0, 0), 0)
	checkAt(t, at(3, -4), 3-4i)
	checkAt(t, at(-3, 4), -3+4i)
	checkAt(t, at(api.MaxInt, -api.MaxInt), 9999-9999i)
	checkAt(t, at(-api.MaxInt, api.MaxInt), -9999+9999i)
	for _, b := range edgeGrid() {
		for _, name := range []string{"", "b", "two words", "\xff\n", strings.Repeat("x", 1000)} {
			b.Name = name
			checkAt(t, b, complex(float64(b.X), float64(b.Y)))
		}
	}
	for _, b := range badBlocks() {
		checkAt(t, b, 0)
	}
}

// P8.1: steps lead from the first block to the second one; 0 if one of them is not valid.
func TestStep(t *testing.T) {
	checkStep(t, at(1, 2), at(4, -2), 3-4i)
	checkStep(t, at(4, -2), at(1, 2), -3+4i)
	checkStep(t, at(-9999, -9999), at(9999, 9999), 19998+19998i)
	checkStep(t, at(9999, -9999), at(-9999, 9999), -19998+19998i)
	for _, a := range edgeGrid() {
		for _, b := range edgeGrid() {
			checkStep(t, a, b, complex(float64(b.X-a.X), float64(b.Y-a.Y)))
		}
	}
	for _, bad := range badBlocks() {
		checkStep(t, bad, at(1, 2), 0)
		checkStep(t, at(1, 2), bad, 0)
		checkStep(t, bad, bad, 0)
		checkStep(t, bad, at(0, 0), 0)
	}
}

// P8.1: the turns by example, the first one the chapter's.
func TestTurnExamples(t *testing.T) {
	for _, x := range []struct {
		way  []api.Block
		want int
	}{
		{wayOf(0, 0, 1, 0, 1, 1), 1},
		{wayOf(0, 0, 1, 0, 1, -1), 2},
		{wayOf(0, 0, 1, 0, 2, 0), 3},
		{wayOf(0, 0, 1, 0, -5, 0), 4},
		{wayOf(2, 3, 2, 3, 4, 5), 0},
		{wayOf(2, 3, 4, 5, 4, 5), 0},
		{wayOf(2, 3, 2, 3, 2, 3), 0},
		{wayOf(0, 0, 2, 1, 5, 3), 1},
		{wayOf(0, 0, 2, 1, 5, 2), 2},
		{wayOf(0, 0, 2, 1, 6, 3), 3},
		{wayOf(0, 0, 2, 1, 0, 0), 4},
		{wayOf(0, 0, 0, -1, 1, -1), 1},
		{wayOf(0, 0, 0, -1, 0, -2), 3},
		{wayOf(0, 0, 0, -1, 0, 2), 4},
		{wayOf(-9999, -9999, 9999, 9998, -9999, -9998), 1},
		{wayOf(-9999, -9999, 9999, 9998, -9998, -9999), 2},
		{wayOf(-9999, -9998, 9999, 9999, -9999, -9999), 2},
		{wayOf(-9999, -9999, 9998, 9999, -9998, -9999), 2},
		{wayOf(-9999, -9999, 9999, 9999, -9999, -9999), 4},
		{wayOf(-9999, -9999, 0, 0, 9999, 9999), 3},
	} {
		checkTurn(t, x.way[0], x.way[1], x.way[2], x.want, api.OK)
		checkTurns(t, x.way, []int{x.want}, api.OK)
	}
}

// P8.1: the turns on all ways of three blocks near 0 and at the ends of the range.
func TestTurnAgainstModel(t *testing.T) {
	for _, grid := range [][]api.Block{edgeGrid(), gridOf(-2, -1, 0, 1, 2)} {
		for _, a := range grid {
			for _, b := range grid {
				for _, c := range grid {
					checkTurn(t, a, b, c, turnOf(a, b, c), api.OK)
				}
			}
		}
	}
}

// P8.1: ways with blocks that are not valid have ErrRange, also where there would be no turn.
func TestTurnRange(t *testing.T) {
	for _, bad := range badBlocks() {
		for _, b := range wayOf(0, 0, 1, 2, 9999, -9999) {
			checkTurn(t, bad, b, at(1, 1), 0, api.ErrRange)
			checkTurn(t, b, bad, at(1, 1), 0, api.ErrRange)
			checkTurn(t, at(1, 1), b, bad, 0, api.ErrRange)
			checkTurn(t, b, b, bad, 0, api.ErrRange)
			checkTurn(t, bad, b, b, 0, api.ErrRange)
		}
		checkTurn(t, bad, bad, bad, 0, api.ErrRange)
	}
}

// P8.1: a turn for all blocks of a way but its first and last one.
func TestTurns(t *testing.T) {
	checkTurns(t, wayOf(0, 0, 1, 0, 1, 1, 0, 1, 0, 1), []int{1, 1, 0}, api.OK)
	checkTurns(t, wayOf(0, 0, 1, 0, 2, 0, 2, -1, 2, 0, 2, 0, 3, 0), []int{3, 2, 4, 0, 0}, api.OK)
	checkTurns(t, nil, nil, api.OK)
	checkTurns(t, []api.Block{}, nil, api.OK)
	checkTurns(t, wayOf(3, 4), nil, api.OK)
	checkTurns(t, wayOf(3, 4, 5, 6), nil, api.OK)
	random := rand.New(rand.NewPCG(8, 1))
	for range 2000 {
		way := randomWay(random)
		var want []int
		for i := 1; i < len(way)-1; i++ {
			want = append(want, turnOf(way[i-1], way[i], way[i+1]))
		}
		checkTurns(t, way, want, api.OK)
	}
}

// P8.1, P8.2: lists of MaxCells blocks are allowed, longer ones are not, and ErrMany comes before ErrRange.
func TestMany(t *testing.T) {
	turns := slices.Repeat([]int{4}, api.MaxCells-2)
	way := slices.Repeat(wayOf(0, 0, 3, 4), api.MaxCells/2)
	checkTurns(t, way, turns, api.OK)
	checkArea(t, way, 0, api.OK)
	bad := at(0, api.MaxInt+1)
	for _, list := range [][]api.Block{
		append(slices.Clone(way), at(1, 1)),
		append(slices.Clone(way), bad),
		append([]api.Block{bad}, way...),
		slices.Repeat([]api.Block{bad}, api.MaxCells+1),
		make([]api.Block, 1e6),
	} {
		checkTurns(t, list, nil, api.ErrMany)
		checkArea(t, list, 0, api.ErrMany)
	}
}

// P8.1, P8.2: a block that is not valid at any place of a list of any length has ErrRange, also where there is no turn
// and the area would be 0.
func TestListRange(t *testing.T) {
	for _, n := range []int{1, 2, 3, 4, api.MaxCells} {
		for place := range n {
			for _, bad := range badBlocks() {
				list := make([]api.Block, n)
				list[place] = bad
				checkTurns(t, list, nil, api.ErrRange)
				checkArea(t, list, 0, api.ErrRange)
			}
		}
	}
}

// P8.1: the squares of lengths.
func TestSquare(t *testing.T) {
	checkSquare(t, at(1, 1), at(4, 5), 25, api.OK)
	checkSquare(t, at(4, 5), at(1, 1), 25, api.OK)
	checkSquare(t, at(7, -7), at(7, -7), 0, api.OK)
	checkSquare(t, at(-9999, 9999), at(9999, -9999), 2*19998*19998, api.OK)
	for _, a := range edgeGrid() {
		for _, b := range edgeGrid() {
			x, y := b.X-a.X, b.Y-a.Y
			checkSquare(t, a, b, x*x+y*y, api.OK)
		}
	}
	for _, bad := range badBlocks() {
		checkSquare(t, bad, at(0, 0), 0, api.ErrRange)
		checkSquare(t, at(0, 0), bad, 0, api.ErrRange)
		checkSquare(t, bad, bad, 0, api.ErrRange)
	}
}

// P8.2: areas by example, the first one the chapter's.
func TestAreaExamples(t *testing.T) {
	const most = api.MaxInt
	for _, x := range []struct {
		walk []api.Block
		want int
	}{
		{wayOf(0, 0, 1, 0, 1, 1, 0, 1), 2},
		{wayOf(0, 0, 0, 1, 1, 1, 1, 0), -2},
		{wayOf(1, 0, 1, 1, 0, 1, 0, 0), 2},
		{wayOf(0, 0, 1, 0, 1, 1, 0, 1, 0, 0), 2},
		{wayOf(5, 7, 6, 7, 5, 8), 1},
		{wayOf(5, 7, 5, 8, 6, 7), -1},
		{wayOf(0, 0, 2, 2, 2, 0, 0, 2), 0},
		{wayOf(1, 2, 3, 5, 5, 8), 0},
		{wayOf(-most, -most, most, -most, most, most, -most, most), 2 * 19998 * 19998},
		{wayOf(-most, -most, -most, most, most, most, most, -most), -2 * 19998 * 19998},
		{slices.Repeat(wayOf(-most, -most, most, -most, most, most, -most, most), 12), 12 * 2 * 19998 * 19998},
		{nil, 0},
		{[]api.Block{}, 0},
		{wayOf(3, 4), 0},
		{wayOf(most, -most), 0},
		{wayOf(3, 4, -5, 7), 0},
		{wayOf(most, -most, most-1, most), 0},
	} {
		checkArea(t, x.walk, x.want, api.OK)
	}
}

// P8.2: the sum over triangles is another way to the area.
func TestAreaAgainstModel(t *testing.T) {
	grid := edgeGrid()
	for _, a := range grid {
		for _, b := range grid {
			checkArea(t, []api.Block{a, b}, 0, api.OK)
			for _, c := range grid {
				walk := []api.Block{a, b, c}
				checkArea(t, walk, areaOf(walk), api.OK)
			}
		}
	}
	random := rand.New(rand.NewPCG(8, 2))
	for range 2000 {
		walk := randomWay(random)
		checkArea(t, walk, areaOf(walk), api.OK)
	}
}

// P8.3: rotations by every number of quarters, with any name.
func TestRotate(t *testing.T) {
	for _, name := range []string{"", "b", "two words", "\xff\n", strings.Repeat("x", 1000)} {
		for _, x := range []struct {
			quarters []int
			x, y     int
		}{
			{[]int{0, 4, -4, 8, 1 << 32, -1 << 32, math.MaxInt - 3, math.MinInt}, 3, -4},
			{[]int{1, 5, -3, -7, 1<<32 + 1, 1 - 1<<32, math.MaxInt - 2, math.MinInt + 1}, 4, 3},
			{[]int{2, 6, -2, -6, 1<<32 + 2, 2 - 1<<32, math.MaxInt - 1, math.MinInt + 2}, -3, 4},
			{[]int{3, 7, -1, -5, 1<<32 - 1, 3 - 1<<32, math.MaxInt, math.MinInt + 3}, -4, -3},
		} {
			for _, quarters := range x.quarters {
				checkRotate(t, api.Block{Name: name, X: 3, Y: -4}, quarters, api.Block{Name: name, X: x.x, Y: x.y}, api.OK)
			}
		}
	}
	for _, b := range edgeGrid() {
		for quarters := -12; quarters < 12; quarters += 4 {
			checkRotate(t, b, quarters, b, api.OK)
			checkRotate(t, b, quarters+1, at(-b.Y, b.X), api.OK)
			checkRotate(t, b, quarters+2, at(-b.X, -b.Y), api.OK)
			checkRotate(t, b, quarters+3, at(b.Y, -b.X), api.OK)
		}
	}
}

// P8.3: mirror images, with any name.
func TestMirror(t *testing.T) {
	checkMirror(t, api.Block{}, api.Block{}, api.OK)
	for _, name := range []string{"", "b", "two words", "\xff\n", strings.Repeat("x", 1000)} {
		checkMirror(t, api.Block{Name: name, X: 3, Y: -4}, api.Block{Name: name, X: 3, Y: 4}, api.OK)
	}
	for _, b := range edgeGrid() {
		checkMirror(t, b, at(b.X, -b.Y), api.OK)
	}
}

// P8.3: blocks that are not valid are neither rotated nor mirrored, and have no name in the result.
func TestMovesRange(t *testing.T) {
	for _, bad := range badBlocks() {
		for _, quarters := range []int{0, 1, 2, 3, 4, -1, math.MaxInt, math.MinInt} {
			checkRotate(t, bad, quarters, api.Block{}, api.ErrRange)
		}
		checkMirror(t, bad, api.Block{}, api.ErrRange)
	}
}

// moved returns a way all of whose blocks a function has moved.
func moved(t *testing.T, way []api.Block, move func(api.Block) (api.Block, api.Errno)) []api.Block {
	t.Helper()
	var images []api.Block
	for _, b := range way {
		image, e := move(b)
		if e != api.OK {
			t.Fatalf("the block %v has the error %d", b, e)
		}
		images = append(images, image)
	}
	return images
}

// checkImage checks turns, area and lengths of an image of a way: names tells how turns change, sign how the area does.
func checkImage(t *testing.T, way, image []api.Block, names [5]int, sign int) {
	t.Helper()
	turns, _ := plane.Turns(way)
	for i, turn := range turns {
		turns[i] = names[turn]
	}
	area, _ := plane.Area(way)
	checkTurns(t, image, turns, api.OK)
	checkArea(t, image, sign*area, api.OK)
	for i, b := range way {
		square, _ := plane.Square(way[0], b)
		checkSquare(t, image[0], image[i], square, api.OK)
	}
}

// P8.1 to P8.3: rotations change no turns, areas and lengths; Mirror exchanges left and right and changes the sign of
// areas. The steps of a closed walk add up to 0.
func TestConsequences(t *testing.T) {
	random := rand.New(rand.NewPCG(8, 3))
	for range 500 {
		way := randomWay(random)
		quarters := int(random.Uint64())
		rotate := func(b api.Block) (api.Block, api.Errno) { return plane.Rotate(b, quarters) }
		checkImage(t, way, moved(t, way, rotate), [5]int{0, 1, 2, 3, 4}, 1)
		checkImage(t, way, moved(t, way, plane.Mirror), [5]int{0, 2, 1, 3, 4}, -1)
		var sum complex128
		for i, b := range way {
			sum += plane.Step(b, way[(i+1)%len(way)])
		}
		if sum != 0 {
			t.Errorf("the steps of %s add up to %v", short(way), sum)
		}
	}
}

// within reports whether two strings share memory.
func within(s, whole string) bool {
	at, first := uintptr(unsafe.Pointer(unsafe.StringData(s))), uintptr(unsafe.Pointer(unsafe.StringData(whole)))
	return at >= first && at < first+uintptr(len(whole))
}

// R2: names of results share no memory with the arguments, and no two results of Turns share any.
func TestNewMemory(t *testing.T) {
	b := api.Block{Name: strings.Clone("name"), X: 1, Y: 2}
	for quarters := range 4 {
		if image, _ := plane.Rotate(b, quarters); within(image.Name, b.Name) {
			t.Errorf("the name of the block rotated by %d shares memory with the argument", quarters)
		}
	}
	if image, _ := plane.Mirror(b); within(image.Name, b.Name) {
		t.Error("the name of the mirrored block shares memory with the argument")
	}
	way := wayOf(0, 0, 1, 0, 1, 1, 0, 1)
	first, _ := plane.Turns(way)
	second, _ := plane.Turns(way)
	clear(first[:cap(first)])
	if !slices.Equal(second, []int{1, 1}) {
		t.Errorf("a change of one result made another one %v", second)
	}
}

// R2: arguments are left as they were, also behind their ends. R6: a second call has the same result.
func TestArgumentsKept(t *testing.T) {
	blocks := wayOf(0, 0, 1, 0, 1, 1, 0, 1, 10000, 0)
	for range 2 {
		checkTurns(t, blocks[:4], []int{1, 1}, api.OK)
		checkArea(t, blocks[:4], 2, api.OK)
		checkTurns(t, blocks, nil, api.ErrRange)
		checkArea(t, blocks, 0, api.ErrRange)
	}
	if want := wayOf(0, 0, 1, 0, 1, 1, 0, 1, 10000, 0); !slices.Equal(blocks, want) {
		t.Errorf("the argument was changed to %v", blocks)
	}
}
