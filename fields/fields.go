// Package fields is layer 1: it divides texts into lines and fields, reads numbers and names, and joins lines into a text. See shared/doc/01-fields.md.
package fields

import (
	"strings"

	"blockway/api"
)

// Lines returns the lines of a text that have fields, or the number of the line with the first error, and the error.
func Lines(text string) ([]api.Line, int, api.Errno) {
	if len(text) > api.MaxText {
		return nil, 0, api.ErrText
	}
	var list []api.Line
	for i, line := range strings.Split(text, "\n") {
		found, e := scan(line)
		if e != api.OK {
			return nil, i + 1, e
		}
		if len(found) > 0 {
			list = append(list, api.Line{Number: i + 1, Fields: found})
		}
	}
	return list, 0, api.OK
}

// scan returns the fields of a line (without its line feed), or the error of its first byte that has one.
func scan(line string) ([]string, api.Errno) {
	var list []string
	at := 0
	for {
		start := at
		for at < len(line) {
			if !isFieldByte(line[at]) {
				goto stop
			}
			if at-start == api.MaxField {
				return nil, api.ErrLong
			}
			at++
		}
	stop:
		if at > start {
			// A clone, since a result shares no memory with an argument.
			list = append(list, strings.Clone(line[start:at]))
		}
		if at == len(line) || line[at] == '#' {
			goto end
		}
		if line[at] != ' ' && line[at] != '\t' {
			return nil, api.ErrByte
		}
		at++
	}
end:
	return list, api.OK
}

func isFieldByte(b byte) bool {
	return b >= 33 && b <= 126 && b != '#'
}

// Number returns the value of a number, or 0 and false if s is none.
func Number(s string) (int, bool) {
	digits, negative := strings.CutPrefix(s, "-")
	if digits == "" || digits[0] == '0' && s != "0" {
		return 0, false
	}
	n := 0
	for i := range len(digits) {
		if !isDigit(digits[i]) {
			return 0, false
		}
		n = 10*n + int(digits[i]-'0')
		// Checked for each digit, so that no sequence of digits overflows.
		if n > api.MaxInt {
			return 0, false
		}
	}
	if negative {
		return -n, true
	}
	return n, true
}

// Name reports whether s is a name.
func Name(s string) bool {
	if s == "" || len(s) > api.MaxField || !isLetter(s[0]) {
		return false
	}
	for i := range len(s) {
		if b := s[i]; !isLetter(b) && !isDigit(b) && b != '-' && b != '_' {
			return false
		}
	}
	return true
}

func isDigit(b byte) bool {
	return b >= '0' && b <= '9'
}

func isLetter(b byte) bool {
	return b >= 'a' && b <= 'z' || b >= 'A' && b <= 'Z'
}

// Join returns a text whose Lines are l.
func Join(l []api.Line) (string, api.Errno) {
	if !validLines(l) {
		return "", api.ErrInvalid
	}
	var text strings.Builder
	last := 0
	for _, line := range l {
		// Checked before anything is written: a line with this number would need as many line feeds.
		if line.Number > api.MaxText {
			return "", api.ErrText
		}
		text.WriteString(strings.Repeat("\n", line.Number-last-1))
		text.WriteString(strings.Join(line.Fields, " "))
		text.WriteByte('\n')
		if text.Len() > api.MaxText {
			return "", api.ErrText
		}
		last = line.Number
	}
	return text.String(), api.OK
}

// validLines reports whether Lines could return l if texts had no limit.
func validLines(l []api.Line) bool {
	last := 0
	for _, line := range l {
		if line.Number <= last || len(line.Fields) == 0 {
			return false
		}
		for _, field := range line.Fields {
			if !validField(field) {
				return false
			}
		}
		last = line.Number
	}
	return true
}

func validField(s string) bool {
	if s == "" || len(s) > api.MaxField {
		return false
	}
	for i := range len(s) {
		if !isFieldByte(s[i]) {
			return false
		}
	}
	return true
}
