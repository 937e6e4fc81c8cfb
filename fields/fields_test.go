package fields_test

import (
	"math"
	"reflect"
	"strings"
	"testing"
	"unsafe"

	"blockway/api"
	"blockway/fields"
)

func line(n int, l ...string) api.Line {
	return api.Line{Number: n, Fields: l}
}

// sameLines treats nil and empty lists alike.
func sameLines(a, b []api.Line) bool {
	return len(a) == 0 && len(b) == 0 || reflect.DeepEqual(a, b)
}

func checkLines(t *testing.T, text string, want []api.Line) {
	t.Helper()
	l, n, e := fields.Lines(text)
	if e != api.OK || n != 0 || !sameLines(l, want) {
		t.Errorf("Lines(%.60q) = %v, %d, %d, want %v, 0, 0", text, l, n, e, want)
	}
}

func checkLinesError(t *testing.T, text string, number int, want api.Errno) {
	t.Helper()
	l, n, e := fields.Lines(text)
	if e != want || n != number || len(l) != 0 {
		t.Errorf("Lines(%.60q) = %v, %d, %d, want none, %d, %d", text, l, n, e, number, want)
	}
}

// P1.1: the lines with fields, their numbers and their fields.
func TestLines(t *testing.T) {
	full := strings.Repeat("x", api.MaxField)
	for _, c := range []struct {
		text string
		want []api.Line
	}{
		{"", nil},
		{"\n", nil},
		{"\n\n\n", nil},
		{" \t \n\t", nil},
		{"#", nil},
		{"# a b\n#c", nil},
		{"a", []api.Line{line(1, "a")}},
		{"a\n", []api.Line{line(1, "a")}},
		{"a\nb", []api.Line{line(1, "a"), line(2, "b")}},
		{"a\nb\n", []api.Line{line(1, "a"), line(2, "b")}},
		{"\n\na", []api.Line{line(3, "a")}},
		{"a\n\n \n#\nb", []api.Line{line(1, "a"), line(5, "b")}},
		{"  a\t\tb \t c  ", []api.Line{line(1, "a", "b", "c")}},
		{"\n\nblock a 1 -2 # first", []api.Line{line(3, "block", "a", "1", "-2")}},
		{"a#b", []api.Line{line(1, "a")}},
		{"a #b # c\nd", []api.Line{line(1, "a"), line(2, "d")}},
		{"a # b\nc#\n", []api.Line{line(1, "a"), line(2, "c")}},
		{full, []api.Line{line(1, full)}},
		{full + " " + full, []api.Line{line(1, full, full)}},
		{full + "\n" + full, []api.Line{line(1, full), line(2, full)}},
		{full + "#" + full, []api.Line{line(1, full)}},
		{"a a a", []api.Line{line(1, "a", "a", "a")}},
	} {
		checkLines(t, c.text, c.want)
	}
}

// P1.1: before a comment, every byte is a separator, a byte of a field, or not allowed; in a comment every byte is.
func TestLinesEveryByte(t *testing.T) {
	for i := range 256 {
		s := string([]byte{byte(i)})
		switch {
		case i == '\n' || i == ' ' || i == '\t' || i == '#':
			checkLines(t, s, nil)
		case i >= 33 && i <= 126:
			checkLines(t, s, []api.Line{line(1, s)})
			checkLines(t, "a"+s+"b", []api.Line{line(1, "a"+s+"b")})
		default:
			checkLinesError(t, s, 1, api.ErrByte)
			checkLinesError(t, "a\n\nb"+s, 3, api.ErrByte)
			checkLinesError(t, "a "+s+"# c", 1, api.ErrByte)
		}
		if i != '\n' {
			checkLines(t, "a#"+s+"b", []api.Line{line(1, "a")})
		}
	}
}

// P1.1: the first byte that has an error decides.
func TestLinesErrors(t *testing.T) {
	full := strings.Repeat("x", api.MaxField)
	for _, c := range []struct {
		text   string
		number int
		want   api.Errno
	}{
		{full + "x", 1, api.ErrLong},
		{"a " + full + "x", 1, api.ErrLong},
		{strings.Repeat("x", 100), 1, api.ErrLong},
		{"#\n\n a " + full + "x # c\n", 3, api.ErrLong},
		{full + "x\x00", 1, api.ErrLong},
		{full + "\x00", 1, api.ErrByte},
		{full + "\x00x", 1, api.ErrByte},
		{full + "\x7f", 1, api.ErrByte},
		{"\x00 " + full + "x", 1, api.ErrByte},
		{full + "x\n\x00", 1, api.ErrLong},
		{"\x00\n" + full + "x", 1, api.ErrByte},
		{"a\n" + full + "x\n\x00", 2, api.ErrLong},
		{"a\nb\r\nc", 2, api.ErrByte},
		{"# é\nü", 2, api.ErrByte},
	} {
		checkLinesError(t, c.text, c.number, c.want)
	}
}

// P1.1: a text that is too long is refused before its bytes are looked at.
func TestLinesLength(t *testing.T) {
	checkLines(t, strings.Repeat("\n", api.MaxText), nil)
	checkLines(t, strings.Repeat("\n", api.MaxText-1)+"x", []api.Line{line(api.MaxText, "x")})
	checkLines(t, "x#"+strings.Repeat("\x00", api.MaxText-2), []api.Line{line(1, "x")})
	checkLinesError(t, strings.Repeat("\n", api.MaxText+1), 0, api.ErrText)
	checkLinesError(t, strings.Repeat("#", api.MaxText+1), 0, api.ErrText)
	checkLinesError(t, strings.Repeat("x", api.MaxText), 1, api.ErrLong)
	checkLinesError(t, strings.Repeat("x", api.MaxText+1), 0, api.ErrText)
	checkLinesError(t, strings.Repeat("\x00", api.MaxText+1), 0, api.ErrText)
	checkLinesError(t, strings.Repeat("\x00", 100*api.MaxText), 0, api.ErrText)
}

// modelLines reads a text byte by byte, as the definitions say.
func modelLines(text string) ([]api.Line, int, api.Errno) {
	var l []api.Line
	number, comment, field := 1, false, ""
	var found []string
	endField := func() {
		if field != "" {
			found = append(found, field)
		}
		field = ""
	}
	endLine := func() {
		endField()
		if found != nil {
			l = append(l, api.Line{Number: number, Fields: found})
		}
		number, comment, found = number+1, false, nil
	}
	for _, b := range []byte(text) {
		switch {
		case b == '\n':
			endLine()
		case comment:
		case b == '#':
			comment = true
		case b == ' ' || b == '\t':
			endField()
		case b < 33 || b > 126:
			return nil, number, api.ErrByte
		case len(field) == api.MaxField:
			return nil, number, api.ErrLong
		default:
			field += string(rune(b))
		}
	}
	endLine()
	return l, 0, api.OK
}

// allTexts calls f with every sequence of up to n of these pieces.
func allTexts(n int, f func(text string)) {
	pieces := []string{"a", "-", " ", "\t", "\n", "#", "\x00", strings.Repeat("b", api.MaxField-1)}
	var extend func(text string, n int)
	extend = func(text string, n int) {
		f(text)
		if n == 0 {
			return
		}
		for _, p := range pieces {
			extend(text+p, n-1)
		}
	}
	extend("", n)
}

// P1.1: Lines agrees with the definitions on all short texts.
func TestLinesAgainstModel(t *testing.T) {
	allTexts(5, func(text string) {
		l, n, e := fields.Lines(text)
		wl, wn, we := modelLines(text)
		if e != we || n != wn || !sameLines(l, wl) {
			t.Fatalf("Lines(%q) = %v, %d, %d, want %v, %d, %d", text, l, n, e, wl, wn, we)
		}
	})
}

// P1.1, P1.3 (Consequences): Lines of Join of l is l, and a comment at the end of a line changes nothing.
func TestConsequences(t *testing.T) {
	allTexts(5, func(text string) {
		l, _, e := fields.Lines(text)
		if e != api.OK {
			return
		}
		joined, e := fields.Join(l)
		again, n, e2 := fields.Lines(joined)
		if e != api.OK || e2 != api.OK || n != 0 || !sameLines(again, l) {
			t.Fatalf("of %q: Join is %q, %d; its Lines are %v, %d, %d, want %v", text, joined, e, again, n, e2, l)
		}
		checkLines(t, strings.ReplaceAll(text, "\n", "#\xff c #\n")+" # end", l)
	})
}

// P1.2: numbers.
func TestNumber(t *testing.T) {
	for _, c := range []struct {
		s string
		n int
	}{
		{"0", 0}, {"1", 1}, {"9", 9}, {"10", 10}, {"100", 100}, {"1234", 1234}, {"9990", 9990}, {"9999", 9999},
		{"-1", -1}, {"-9", -9}, {"-10", -10}, {"-5678", -5678}, {"-9999", -9999},
	} {
		if n, ok := fields.Number(c.s); n != c.n || !ok {
			t.Errorf("Number(%q) = %d, %v, want %d, true", c.s, n, ok, c.n)
		}
	}
}

// P1.2: what is no number.
func TestNumberNone(t *testing.T) {
	long := strings.Repeat("9", 30)
	for _, s := range []string{
		"", "-", "--", "--1", "-0", "-00", "00", "01", "007", "-01", "-007", "+1", "+", "- 1", " 1", "1 ", "1-", "1-1",
		"10000", "-10000", "10001", "99999", "4294967296", "4294967297", "-4294967297", "18446744073709551616", "18446744073709551617", "-18446744073709551615",
		long, "-" + long, strings.Repeat("1", 100000), strings.Repeat("0", 30),
		"1a", "a", "a1", "-a", "1.0", "1e3", "0x1", "1_000", "1/", "1:", "/", ":", "\x00", "1\x00", "\xff", "1\n", "٣", "１",
	} {
		if n, ok := fields.Number(s); n != 0 || ok {
			t.Errorf("Number(%.40q) = %d, %v, want 0, false", s, n, ok)
		}
	}
}

// P1.2: every value in range has one number, and the values beside the range have none.
func TestNumberEveryValue(t *testing.T) {
	for n := -2 * api.MaxInt; n <= 2*api.MaxInt; n++ {
		in := n >= -api.MaxInt && n <= api.MaxInt
		want := 0
		if in {
			want = n
		}
		if got, ok := fields.Number(decimal(n)); got != want || ok != in {
			t.Fatalf("Number(%q) = %d, %v, want %d, %v", decimal(n), got, ok, want, in)
		}
	}
}

func decimal(n int) string {
	if n < 0 {
		return "-" + decimal(-n)
	}
	if n < 10 {
		return string(rune('0' + n))
	}
	return decimal(n/10) + decimal(n%10)
}

// P1.2: names.
func TestName(t *testing.T) {
	for _, s := range []string{"a", "z", "A", "Z", "a1", "a-", "a_", "a-_9", "Az09-_", "a--", "block", "abcdefghijkl", "a23456789012"} {
		if !fields.Name(s) {
			t.Errorf("Name(%q) is false", s)
		}
	}
	for _, s := range []string{
		"", "1", "0a", "-", "-a", "_", "_a", "abcdefghijklm", "a234567890123", strings.Repeat("a", 100000), "a b", " a", "a ", "a\n",
		"a.", "a#", "a\x00", "\x00", "aé", "é", "a\xff", "ａ", "a/", "a:", "a@", "a[", "a^", "a`", "a{",
	} {
		if fields.Name(s) {
			t.Errorf("Name(%.40q) is true", s)
		}
	}
}

// P1.2: each byte, first and later in a name.
func TestNameEveryByte(t *testing.T) {
	const letters = "abcdefghijklmnopqrstuvwxyzABCDEFGHIJKLMNOPQRSTUVWXYZ"
	for i := range 256 {
		s := string([]byte{byte(i)})
		first := strings.Contains(letters, s)
		later := strings.Contains(letters+"0123456789-_", s)
		if fields.Name(s) != first || fields.Name(s+"a") != first {
			t.Errorf("Name(%q) or Name(%q) is not %v", s, s+"a", first)
		}
		if fields.Name("a"+s) != later || fields.Name("a"+s+"b") != later {
			t.Errorf("Name(%q) or Name(%q) is not %v", "a"+s, "a"+s+"b", later)
		}
	}
}

func checkJoin(t *testing.T, l []api.Line, want string, wantErr api.Errno) {
	t.Helper()
	if text, e := fields.Join(l); text != want || e != wantErr {
		t.Errorf("Join(%.80v) = %.60q, %d, want %.60q, %d", l, text, e, want, wantErr)
	}
}

// P1.3: the text of lines.
func TestJoin(t *testing.T) {
	checkJoin(t, nil, "", api.OK)
	checkJoin(t, []api.Line{}, "", api.OK)
	checkJoin(t, []api.Line{line(1, "a")}, "a\n", api.OK)
	checkJoin(t, []api.Line{line(1, "a", "b", "-2")}, "a b -2\n", api.OK)
	checkJoin(t, []api.Line{line(1, "a"), line(2, "b")}, "a\nb\n", api.OK)
	checkJoin(t, []api.Line{line(3, "a"), line(4, "b", "c"), line(7, "d")}, "\n\na\nb c\n\n\nd\n", api.OK)
	checkJoin(t, []api.Line{line(2, "!\"$%&'()*+,-", "abcdefghijkl", "~")}, "\n!\"$%&'()*+,- abcdefghijkl ~\n", api.OK)
}

// P1.3: lines that no text has.
func TestJoinInvalid(t *testing.T) {
	for _, l := range [][]api.Line{
		{line(0, "a")},
		{line(-1, "a")},
		{line(math.MinInt, "a")},
		{line(1, "a"), line(1, "a")},
		{line(2, "a"), line(1, "b")},
		{line(1, "a"), line(3, "b"), line(2, "c")},
		{line(1, "a"), line(math.MinInt, "b")},
		{line(math.MaxInt, "a"), line(math.MinInt, "b")},
		{line(1)},
		{{Number: 1, Fields: []string{}}},
		{line(1, "a"), line(2)},
		{line(1, "")},
		{line(1, "a", "", "b")},
		{line(1, "abcdefghijklm")},
		{line(1, "a", "abcdefghijklm")},
		{line(1, "a#")},
		{line(1, "#")},
	} {
		checkJoin(t, l, "", api.ErrInvalid)
	}
	for i := range 256 {
		s := string([]byte{byte(i)})
		if i < 33 || i > 126 || i == '#' {
			checkJoin(t, []api.Line{line(1, s)}, "", api.ErrInvalid)
			checkJoin(t, []api.Line{line(1, "a"), line(2, "b", "c"+s+"d")}, "", api.ErrInvalid)
		} else {
			checkJoin(t, []api.Line{line(1, s)}, s+"\n", api.OK)
		}
	}
}

// repeated returns a line with n fields of one byte: 2n bytes of a text.
func repeated(number, n int) api.Line {
	return line(number, strings.Split(strings.Repeat("a", n), "")...)
}

// P1.3: the limit of the text, and ErrInvalid before ErrText.
func TestJoinLength(t *testing.T) {
	feeds := strings.Repeat("\n", api.MaxText)
	checkJoin(t, []api.Line{line(api.MaxText-1, "a")}, feeds[:api.MaxText-2]+"a\n", api.OK)
	checkJoin(t, []api.Line{line(api.MaxText-2, "a"), line(api.MaxText-1, "b")}, "", api.ErrText)
	checkJoin(t, []api.Line{line(api.MaxText-1, "ab")}, "", api.ErrText)
	checkJoin(t, []api.Line{line(api.MaxText, "a")}, "", api.ErrText)
	checkJoin(t, []api.Line{line(math.MaxInt, "a")}, "", api.ErrText)
	checkJoin(t, []api.Line{line(1, "a"), line(math.MaxInt-1, "b"), line(math.MaxInt, "c")}, "", api.ErrText)

	half := api.MaxText / 2
	full := strings.Repeat("a ", half-1) + "a\n"
	checkJoin(t, []api.Line{repeated(1, half)}, full, api.OK)
	checkJoin(t, []api.Line{repeated(1, half+1)}, "", api.ErrText)
	checkJoin(t, []api.Line{repeated(2, half)}, "", api.ErrText)
	checkJoin(t, []api.Line{repeated(1, half), line(2, "a")}, "", api.ErrText)
	checkJoin(t, []api.Line{repeated(1, 100000)}, "", api.ErrText)

	checkJoin(t, []api.Line{line(math.MaxInt, "")}, "", api.ErrInvalid)
	checkJoin(t, []api.Line{line(math.MaxInt, "a"), line(math.MaxInt, "b")}, "", api.ErrInvalid)
	checkJoin(t, []api.Line{repeated(1, half+1), line(2, "#")}, "", api.ErrInvalid)
	checkJoin(t, []api.Line{repeated(1, half+1), line(1, "a")}, "", api.ErrInvalid)
	checkJoin(t, []api.Line{line(1, "a"), line(api.MaxText+1, "b"), line(api.MaxText + 2)}, "", api.ErrInvalid)
}

// R2: the fields share no memory with the text or with each other's lists.
func TestLinesNewMemory(t *testing.T) {
	text := strings.Clone("ab cd\nef gh\n")
	l, _, _ := fields.Lines(text)
	first := uintptr(unsafe.Pointer(unsafe.StringData(text)))
	for _, x := range l {
		for _, field := range x.Fields {
			at := uintptr(unsafe.Pointer(unsafe.StringData(field)))
			if at >= first && at < first+uintptr(len(text)) {
				t.Errorf("field %q is part of the text", field)
			}
		}
		_ = append(x.Fields, "x", "y", "z")
	}
	if want := []api.Line{line(1, "ab", "cd"), line(2, "ef", "gh")}; !sameLines(l, want) {
		t.Errorf("after appending to its lists the result is %v, want %v", l, want)
	}
}

// R2: Join leaves its argument as it was. R6: a second call has the same result.
func TestJoinKeepsArgument(t *testing.T) {
	shared := []string{"a", "b", "c"}
	l := []api.Line{{Number: 2, Fields: shared[:2]}, {Number: 5, Fields: shared}}
	for range 2 {
		checkJoin(t, l, "\na b\n\n\na b c\n", api.OK)
	}
	if want := []api.Line{line(2, "a", "b"), line(5, "a", "b", "c")}; !sameLines(l, want) {
		t.Errorf("Join changed its argument to %v", l)
	}
}
