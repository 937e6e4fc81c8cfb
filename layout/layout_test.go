package layout_test

import (
	"fmt"
	"math"
	"reflect"
	"slices"
	"strings"
	"testing"
	"unsafe"

	"blockway/api"
	"blockway/fields"
	"blockway/layout"
)

func line(n int, l ...string) api.Line {
	return api.Line{Number: n, Fields: l}
}

// words makes a line out of its fields, separated by spaces.
func words(n int, text string) api.Line {
	return line(n, strings.Fields(text)...)
}

func decl(word, n int, names string, nums ...int) api.Decl {
	return api.Decl{Word: word, Line: n, Names: strings.Fields(names), Nums: nums}
}

// sameDecls treats nil and empty lists alike.
func sameDecls(a, b []api.Decl) bool {
	return slices.EqualFunc(a, b, func(x, y api.Decl) bool {
		return x.Word == y.Word && x.Line == y.Line && slices.Equal(x.Names, y.Names) && slices.Equal(x.Nums, y.Nums)
	})
}

// sameLines treats nil and empty lists alike.
func sameLines(a, b []api.Line) bool {
	return slices.EqualFunc(a, b, func(x, y api.Line) bool {
		return x.Number == y.Number && slices.Equal(x.Fields, y.Fields)
	})
}

// short keeps the messages of tests with long arguments readable.
func short(x any) string {
	return fmt.Sprintf("%.200q", fmt.Sprint(x))
}

func checkParse(t *testing.T, l []api.Line, want []api.Decl) {
	t.Helper()
	d, n, e := layout.Parse(l)
	if e != api.OK || n != 0 || !sameDecls(d, want) {
		t.Errorf("Parse(%s) = %s, %d, %d, want %s, 0, 0", short(l), short(d), n, e, short(want))
	}
}

func checkParseError(t *testing.T, l []api.Line, number int, want api.Errno) {
	t.Helper()
	d, n, e := layout.Parse(l)
	if e != want || n != number || len(d) != 0 {
		t.Errorf("Parse(%s) = %s, %d, %d, want none, %d, %d", short(l), short(d), n, e, number, want)
	}
}

func checkFormat(t *testing.T, d []api.Decl, want []api.Line, wantErr api.Errno) {
	t.Helper()
	l, e := layout.Format(d)
	if e != wantErr || !sameLines(l, want) {
		t.Errorf("Format(%s) = %s, %d, want %s, %d", short(d), short(l), e, short(want), wantErr)
	}
}

// pair is a declaration and its line, as Format writes it.
type pair struct {
	text string
	d    api.Decl
}

func pairs() []pair {
	return []pair{
		{"block a 1 -2", decl(api.WordBlock, 1, "a", 1, -2)},
		{"block block 0 9999", decl(api.WordBlock, 2, "block", 0, 9999)},
		{"block Az09-_ -9999 0", decl(api.WordBlock, 3, "Az09-_", -9999, 0)},
		{"block abcdefghijkl 10 100", decl(api.WordBlock, 4, "abcdefghijkl", 10, 100)},
		{"lane a b", decl(api.WordLane, 5, "a b")},
		{"lane a b c", decl(api.WordLane, 6, "a b c")},
		{"lane a a a a", decl(api.WordLane, 7, "a a a a")},
		{"lane b a lane robot d e f g h", decl(api.WordLane, 8, "b a lane robot d e f g h")},
		{"station s a b 4", decl(api.WordStation, 9, "s a b", 4)},
		{"station s s s -9999", decl(api.WordStation, 10, "s s s", -9999)},
		{"depot d b a 2", decl(api.WordDepot, 11, "d b a", 2)},
		{"depot depot station b 9999", decl(api.WordDepot, 12, "depot station b", 9999)},
		{"robot d 1", decl(api.WordRobot, 13, "d", 1)},
		{"robot d -7", decl(api.WordRobot, 14, "d", -7)},
		{"config 4 2 1 8", decl(api.WordConfig, 15, "", 4, 2, 1, 8)},
		{"config 0 -1 9999 -9999", decl(api.WordConfig, 16, "", 0, -1, 9999, -9999)},
	}
}

// everyPair returns the lines of all pairs and their declarations.
func everyPair() ([]api.Line, []api.Decl) {
	var l []api.Line
	var d []api.Decl
	for _, p := range pairs() {
		l = append(l, words(p.d.Line, p.text))
		d = append(d, p.d)
	}
	return l, d
}

// P2.1: the declarations of all words.
func TestParse(t *testing.T) {
	checkParse(t, nil, nil)
	checkParse(t, []api.Line{}, nil)
	for _, p := range pairs() {
		checkParse(t, []api.Line{words(p.d.Line, p.text)}, []api.Decl{p.d})
	}
	checkParse(t, []api.Line{words(1, "lane a b c")}, []api.Decl{decl(api.WordLane, 1, "a b c")})
	l, d := everyPair()
	checkParse(t, l, d)
}

// P2.1: the Line is the Number, which may be any number, in any order.
func TestParseLine(t *testing.T) {
	checkParse(t,
		[]api.Line{words(7, "robot d 1"), words(7, "robot d 1"), words(-3, "robot d 2"), words(0, "lane a b"), words(math.MaxInt, "robot e 1"), words(math.MinInt, "robot e 2")},
		[]api.Decl{decl(api.WordRobot, 7, "d", 1), decl(api.WordRobot, 7, "d", 1), decl(api.WordRobot, -3, "d", 2), decl(api.WordLane, 0, "a b"), decl(api.WordRobot, math.MaxInt, "e", 1), decl(api.WordRobot, math.MinInt, "e", 2)})
}

// P2.1: a lane may be long.
func TestParseLongLane(t *testing.T) {
	names := slices.Repeat([]string{"a", "b"}, 5000)
	l := []api.Line{line(1, append([]string{"lane"}, names...)...)}
	d := []api.Decl{{Word: api.WordLane, Line: 1, Names: names}}
	checkParse(t, l, d)
	checkFormat(t, d, l, api.OK)
	names[9999] = "1"
	l[0].Fields[10000] = "1"
	checkParseError(t, l, 1, api.ErrName)
	checkFormat(t, d, nil, api.ErrInvalid)
}

// P2.1: a line without fields, and words that are none.
func TestParseWordErrors(t *testing.T) {
	for _, n := range []int{7, 0, -3, math.MinInt} {
		checkParseError(t, []api.Line{line(n)}, n, api.ErrInvalid)
		checkParseError(t, []api.Line{{Number: n, Fields: []string{}}}, n, api.ErrInvalid)
	}
	for _, word := range []string{
		"", " ", "Block", "BLOCK", "bloc", "blocks", "block ", " block", "block\x00", "lan", "lanes", "Lane", "stations", "Station", "depots", "Depot",
		"robots", "Robot", "conf", "configs", "Config", "1", "-", "#", "a", "task", "slot", "spur", "cell", "\xff", strings.Repeat("block", 1000),
	} {
		checkParseError(t, []api.Line{line(7, word)}, 7, api.ErrWord)
		checkParseError(t, []api.Line{line(7, word, "a", "b")}, 7, api.ErrWord)
		checkParseError(t, []api.Line{line(7, word, "a", "1", "1")}, 7, api.ErrWord)
		checkParseError(t, []api.Line{line(7, word, "a", "b", "c", "1")}, 7, api.ErrWord)
		checkParseError(t, []api.Line{line(7, word, "1", "1", "1", "1")}, 7, api.ErrWord)
	}
}

// kinds has for each word its fields, as n (a name) and # (a number).
func kinds() map[string]string {
	return map[string]string{"block": "n##", "lane": "nn", "station": "nnn#", "depot": "nnn#", "robot": "n#", "config": "####"}
}

// P2.1: each number of fields, whether they are names or numbers.
func TestParseFieldCounts(t *testing.T) {
	for word, kind := range kinds() {
		for count := range 12 {
			wrong := count != len(kind)
			if word == "lane" {
				wrong = count < 2
			}
			if !wrong {
				continue
			}
			for _, field := range []string{"a", "1", "", "?"} {
				l := line(3, append([]string{word}, slices.Repeat([]string{field}, count)...)...)
				checkParseError(t, []api.Line{l}, 3, api.ErrFields)
			}
		}
	}
}

func notNames() []string {
	return []string{"", "1", "-1", "-", "_a", "-a", "1a", "a b", "a.", "a#", "\x00", "aé", "é", "abcdefghijklm", strings.Repeat("a", 10000)}
}

func notNumbers() []string {
	return []string{"", "a", "-", "--1", "+1", "-0", "00", "01", "007", "-01", "1.0", "1e3", "0x1", "1a", " 1", "1 ", "10000", "-10000", "4294967297", "18446744073709551617", strings.Repeat("1", 10000), "x"}
}

// P2.1: each field of each word, wrong by itself and with all later ones wrong too: the first one decides.
func TestParseFieldErrors(t *testing.T) {
	longer := kinds()
	longer["lane"] = "nnnnn"
	for word, kind := range longer {
		for at := range len(kind) {
			bad, want := notNames(), api.ErrName
			if kind[at] == '#' {
				bad, want = notNumbers(), api.ErrNumber
			}
			for _, s := range bad {
				alone := goodFields(word, kind)
				alone[1+at] = s
				checkParseError(t, []api.Line{line(5, alone...)}, 5, want)
				later := slices.Clone(alone)
				for i := at + 1; i < len(kind); i++ {
					later[1+i] = "?"
				}
				checkParseError(t, []api.Line{line(5, later...)}, 5, want)
			}
		}
	}
}

// goodFields returns the fields of a line without errors.
func goodFields(word, kind string) []string {
	l := []string{word}
	for _, b := range []byte(kind) {
		if b == 'n' {
			l = append(l, "a")
		} else {
			l = append(l, "1")
		}
	}
	return l
}

// P2.1: the first line with an error decides, and of one line the first error in its order.
func TestParseErrorOrder(t *testing.T) {
	for _, c := range []struct {
		text   string
		number int
		want   api.Errno
	}{
		{"block 1 1 1", 1, api.ErrName},
		{"block a 1 x", 1, api.ErrNumber},
		{"block 1 x 1", 1, api.ErrName},
		{"block 1 1", 1, api.ErrFields},
		{"block 1 x 1 1", 1, api.ErrFields},
		{"lane a", 1, api.ErrFields},
		{"lane 1", 1, api.ErrFields},
		{"lane 1 2", 1, api.ErrName},
		{"lane a b 3", 1, api.ErrName},
		{"lanes 1", 1, api.ErrWord},
		{"robot d 10000", 1, api.ErrNumber},
		{"lane a b\nx\nlane a", 2, api.ErrWord},
		{"lane a b\nlane a\nx", 2, api.ErrFields},
		{"block a 1 x\nblock 1 1 1\nx\nlane", 1, api.ErrNumber},
		{"block 1 1 1\nblock a 1 x", 1, api.ErrName},
		{"block a 1 1\nblock b 1 1\n\n \t\nrobot d x # e\nrobot 1 1", 5, api.ErrNumber},
	} {
		l, _, e := fields.Lines(c.text)
		if e != api.OK {
			t.Fatalf("Lines(%q) has the error %d", c.text, e)
		}
		checkParseError(t, l, c.number, c.want)
	}
	checkParseError(t, []api.Line{words(9, "lane a b"), line(4), words(2, "x")}, 4, api.ErrInvalid)
	checkParseError(t, []api.Line{words(9, "lane a b"), words(5, "x"), line(6)}, 5, api.ErrWord)
	checkParseError(t, []api.Line{words(9, "robot d x"), words(9, "lane a b"), line(6)}, 9, api.ErrNumber)
}

// P2.2: valid declarations, with any Line.
func TestValid(t *testing.T) {
	for _, p := range pairs() {
		for _, n := range []int{p.d.Line, 0, 1, -1, math.MinInt, math.MaxInt} {
			d := p.d
			d.Line = n
			if !layout.Valid(d) {
				t.Errorf("Valid(%v) is false", d)
			}
			checkFormat(t, []api.Decl{d}, []api.Line{words(n, p.text)}, api.OK)
		}
	}
}

func checkNotValid(t *testing.T, d api.Decl) {
	t.Helper()
	if layout.Valid(d) {
		t.Errorf("Valid(%s) is true", short(d))
	}
	checkFormat(t, []api.Decl{d}, nil, api.ErrInvalid)
}

// P2.2: each word with each number of names and numbers.
func TestValidCounts(t *testing.T) {
	counts := map[int][2]int{
		api.WordBlock:   {1, 2},
		api.WordStation: {3, 1},
		api.WordDepot:   {3, 1},
		api.WordRobot:   {1, 1},
		api.WordConfig:  {0, 4},
	}
	for word := -3; word <= 10; word++ {
		for names := range 8 {
			for nums := range 8 {
				d := api.Decl{Word: word, Line: 1, Names: slices.Repeat([]string{"a"}, names), Nums: make([]int, nums)}
				want := false
				if c, ok := counts[word]; ok {
					want = c == [2]int{names, nums}
				} else if word == api.WordLane {
					want = names >= 2 && nums == 0
				}
				if got := layout.Valid(d); got != want {
					t.Errorf("Valid(%v) is %v", d, got)
				}
			}
		}
	}
	for _, word := range []int{math.MinInt, math.MaxInt, 1 << 32, 1<<32 + 1, -1, 0, 7, 256 + 1} {
		checkNotValid(t, decl(word, 1, "a", 1, 1))
		checkNotValid(t, decl(word, 1, "a b"))
		checkNotValid(t, decl(word, 1, ""))
		checkNotValid(t, decl(word, 1, "a b c", 1))
	}
}

// P2.2: each name and each number of a declaration.
func TestValidFields(t *testing.T) {
	for _, p := range pairs() {
		for i := range p.d.Names {
			for _, s := range notNames() {
				d := p.d
				d.Names = slices.Clone(d.Names)
				d.Names[i] = s
				checkNotValid(t, d)
			}
		}
		for i := range p.d.Nums {
			for _, n := range []int{api.MaxInt + 1, -api.MaxInt - 1, math.MinInt, math.MaxInt, 1 << 32, -1 << 32} {
				d := p.d
				d.Nums = slices.Clone(d.Nums)
				d.Nums[i] = n
				checkNotValid(t, d)
			}
		}
	}
}

// P2.2: the lines of declarations, in their order, with their Lines.
func TestFormat(t *testing.T) {
	checkFormat(t, nil, nil, api.OK)
	checkFormat(t, []api.Decl{}, nil, api.OK)
	l, d := everyPair()
	checkFormat(t, d, l, api.OK)
	slices.Reverse(l)
	slices.Reverse(d)
	checkFormat(t, d, l, api.OK)
	checkFormat(t, append(d, d...), append(l, l...), api.OK)
}

// P2.2: one declaration that is not valid, wherever it stands, makes an error.
func TestFormatInvalid(t *testing.T) {
	_, d := everyPair()
	for i := range d {
		for _, bad := range []api.Decl{
			{},
			decl(0, 1, "a", 1, 1),
			decl(7, 1, "a", 1, 1),
			decl(api.WordBlock, 1, "a", 1),
			decl(api.WordBlock, 1, "1", 1, 1),
			decl(api.WordBlock, 1, "a", 1, 10000),
			decl(api.WordLane, 1, "a"),
			decl(api.WordLane, 1, "a b", 1),
			decl(api.WordConfig, 1, "a", 1, 1, 1, 1),
		} {
			checkNotValid(t, bad)
			list := slices.Clone(d)
			list[i] = bad
			checkFormat(t, list, nil, api.ErrInvalid)
		}
	}
}

// P2.1, P2.2 (Consequences): every number stands in decimal, and Parse reads it back.
func TestEveryNumber(t *testing.T) {
	for n := -api.MaxInt; n <= api.MaxInt; n++ {
		d := []api.Decl{decl(api.WordBlock, 1, "a", n, -n)}
		l, e := layout.Format(d)
		if e != api.OK || len(l) != 1 || len(l[0].Fields) != 4 {
			t.Fatalf("Format(%v) = %v, %d", d, l, e)
		}
		if x, ok := fields.Number(l[0].Fields[2]); x != n || !ok {
			t.Fatalf("Format writes %d as %q", n, l[0].Fields[2])
		}
		checkParse(t, l, d)
	}
}

// allLines calls f with every line of up to n of these fields after a first one.
func allLines(n int, f func(l api.Line)) {
	pieces := []string{"a", "b-1", "0", "-12", "01", "-", "lane", "10000"}
	var extend func(l []string, n int)
	extend = func(l []string, n int) {
		f(line(4, l...))
		if n == 0 {
			return
		}
		for _, p := range pieces {
			extend(append(slices.Clone(l), p), n-1)
		}
	}
	for _, first := range []string{"block", "lane", "station", "depot", "robot", "config", "blocks"} {
		extend([]string{first}, n)
	}
}

// modelError finds the error of a line as the chapter says, from a pattern of its fields.
func modelError(l api.Line) api.Errno {
	kind, ok := kinds()[l.Fields[0]]
	if !ok {
		return api.ErrWord
	}
	rest := l.Fields[1:]
	if l.Fields[0] == "lane" && len(rest) > 2 {
		kind = strings.Repeat("n", len(rest))
	}
	if len(rest) != len(kind) {
		return api.ErrFields
	}
	for i, s := range rest {
		if kind[i] == 'n' && !fields.Name(s) {
			return api.ErrName
		}
		if _, ok := fields.Number(s); kind[i] == '#' && !ok {
			return api.ErrNumber
		}
	}
	return api.OK
}

// P2.1, P2.2 (Consequences): Parse agrees with the chapter on all short lines; what it returns is Valid, and Format and Parse take one to the other.
func TestAgainstModel(t *testing.T) {
	allLines(5, func(x api.Line) {
		l := []api.Line{x}
		if want := modelError(x); want != api.OK {
			checkParseError(t, l, 4, want)
			return
		}
		d, n, e := layout.Parse(l)
		if e != api.OK || n != 0 || len(d) != 1 || !layout.Valid(d[0]) {
			t.Fatalf("Parse(%v) = %v, %d, %d, want one valid declaration", l, d, n, e)
		}
		checkFormat(t, d, l, api.OK)
		checkParse(t, l, d)
	})
}

// P2.1, P2.2: declarations go through a text and back.
func TestThroughText(t *testing.T) {
	_, d := everyPair()
	l, e := layout.Format(d)
	text, e2 := fields.Join(l)
	again, n, e3 := fields.Lines(text)
	if e != api.OK || e2 != api.OK || e3 != api.OK || n != 0 || !strings.HasPrefix(text, "block a 1 -2\nblock block 0 9999\n") {
		t.Fatalf("the text is %q, %d, %d, %d in line %d", text, e, e2, e3, n)
	}
	checkParse(t, again, d)
}

// within reports whether two strings share memory.
func within(s, whole string) bool {
	at, first := uintptr(unsafe.Pointer(unsafe.StringData(s))), uintptr(unsafe.Pointer(unsafe.StringData(whole)))
	return at >= first && at < first+uintptr(len(whole))
}

// R2: the lists of Parse share no memory with the lines or with each other.
func TestParseNewMemory(t *testing.T) {
	l := []api.Line{words(1, "lane ab cd ef"), words(2, "station s ab cd 2"), words(3, "config 1 2 3 4")}
	d, _, _ := layout.Parse(l)
	for _, x := range d {
		for i, s := range x.Names {
			if within(s, l[x.Line-1].Fields[1+i]) {
				t.Errorf("name %q shares memory with its field", s)
			}
		}
		_ = append(x.Names, "x", "y", "z")
		_ = append(x.Nums, 7, 7, 7)
	}
	for i := range l {
		clear(l[i].Fields)
	}
	want := []api.Decl{decl(api.WordLane, 1, "ab cd ef"), decl(api.WordStation, 2, "s ab cd", 2), decl(api.WordConfig, 3, "", 1, 2, 3, 4)}
	if !sameDecls(d, want) {
		t.Errorf("after changes of the lines and of its lists the result is %v, want %v", d, want)
	}
}

// R2: the lists of Format share no memory with the declarations or with each other.
func TestFormatNewMemory(t *testing.T) {
	name := strings.Clone("ab")
	d := []api.Decl{{Word: api.WordLane, Line: 1, Names: []string{name, name}}, decl(api.WordRobot, 2, "d", 1), decl(api.WordConfig, 3, "", 1, 2, 3, 4)}
	l, _ := layout.Format(d)
	for _, x := range l {
		for _, s := range x.Fields {
			if within(s, name) {
				t.Errorf("field %q shares memory with a name", s)
			}
		}
		_ = append(x.Fields, "x", "y", "z")
	}
	for i := range d {
		clear(d[i].Names)
		clear(d[i].Nums)
	}
	if want := []api.Line{words(1, "lane ab ab"), words(2, "robot d 1"), words(3, "config 1 2 3 4")}; !sameLines(l, want) {
		t.Errorf("after changes of the declarations and of its lists the result is %v, want %v", l, want)
	}
}

// R2: arguments are left as they were. R6: a second call has the same result.
func TestArgumentsKept(t *testing.T) {
	l, d := everyPair()
	l2, d2 := everyPair()
	for range 2 {
		checkParse(t, l, d2)
		checkFormat(t, d, l2, api.OK)
	}
	if !reflect.DeepEqual(l, l2) || !reflect.DeepEqual(d, d2) {
		t.Errorf("the arguments were changed to %v and %v", l, d)
	}
	shared := []string{"a", "b", "c"}
	checkFormat(t, []api.Decl{{Word: api.WordLane, Line: 1, Names: shared[:2]}}, []api.Line{words(1, "lane a b")}, api.OK)
	if !slices.Equal(shared, []string{"a", "b", "c"}) {
		t.Errorf("Format changed the names behind its argument to %v", shared)
	}
}
