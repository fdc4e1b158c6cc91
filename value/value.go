// Package value is layer 1: numbers and words, and how they are written. See shared/doc/01-value.md.
package value

import (
	"cmp"
	"slices"
	"strconv"
	"strings"

	"trommel/api"
)

const hexDigits = "0123456789abcdef"

// Check tells whether a value is in form.
func Check(v api.Value) api.Errno {
	switch v.Kind {
	case api.KindInt:
		if v.Int >= api.Least && v.Int <= api.Most && v.Word == "" {
			return api.OK
		}
	case api.KindWord:
		if v.Int == 0 && len(v.Word) <= api.MaxWord {
			return api.OK
		}
	}
	return api.ErrForm
}

// Same tells whether two values are the same.
func Same(a, b api.Value) bool { return a == b }

// Compare tells which of two values is ahead.
func Compare(a, b api.Value) int {
	return cmp.Or(
		cmp.Compare(a.Kind, b.Kind),
		cmp.Compare(a.Int, b.Int),
		cmp.Compare(a.Word, b.Word),
	)
}

// Quote is a text in quotation marks.
func Quote(s string) string {
	quoted := make([]byte, 0, len(s)+2)
	quoted = append(quoted, '"')
	// By bytes, not by runes: a word may hold any bytes.
	for i := range len(s) {
		quoted = appendByte(quoted, s[i])
	}
	return string(append(quoted, '"'))
}

// Unquote is the text in quotation marks.
func Unquote(s string) (string, api.Errno) {
	if len(s) < 2 || s[0] != '"' || s[len(s)-1] != '"' {
		return "", api.ErrSyntax
	}
	inner := s[1 : len(s)-1]
	var text []byte
	for inner != "" {
		c, length := firstByte(inner)
		if length == 0 {
			return "", api.ErrSyntax
		}
		text = append(text, c)
		inner = inner[length:]
	}
	return string(text), api.OK
}

// Text is how a value is written.
func Text(v api.Value) (string, api.Errno) {
	if e := Check(v); e != api.OK {
		return "", e
	}
	if v.Kind == api.KindWord {
		return Quote(v.Word), api.OK
	}
	return strconv.Itoa(v.Int), api.OK
}

// Parse is the value that a text writes.
func Parse(s string) (api.Value, api.Errno) {
	v, ok := read(s)
	if !ok {
		return api.Value{}, api.ErrSyntax
	}
	// read is lenient: holding the text against the one that v has refuses
	// noughts and a plus ahead, and all that is no value.
	if t, e := Text(v); e != api.OK || t != s {
		return api.Value{}, api.ErrSyntax
	}
	return v, api.OK
}

// Least is the first of all.
func Least(list ...api.Value) (api.Value, bool) {
	if len(list) == 0 {
		return api.Value{}, false
	}
	return slices.MinFunc(list, Compare), true
}

// printable tells whether a byte is written without its digits.
func printable(c byte) bool { return c >= 0x20 && c <= 0x7e }

// needsBackslash tells whether a printable byte can't stand alone.
func needsBackslash(c byte) bool { return c == '"' || c == '\\' }

// appendByte appends how a byte is written within quotation marks.
func appendByte(to []byte, c byte) []byte {
	switch {
	case needsBackslash(c):
		return append(to, '\\', c)
	case printable(c):
		return append(to, c)
	}
	return append(to, '\\', 'x', hexDigits[c>>4], hexDigits[c&15])
}

// firstByte is the byte with whose writing s begins, and how long that is; 0,
// if s begins with none, or with another writing than the one of appendByte.
// s has a byte at least.
func firstByte(s string) (byte, int) {
	if s[0] != '\\' {
		if printable(s[0]) && !needsBackslash(s[0]) {
			return s[0], 1
		}
		return 0, 0
	}
	if len(s) >= 2 && needsBackslash(s[1]) {
		return s[1], 2
	}
	if len(s) < 4 || s[1] != 'x' {
		return 0, 0
	}
	high := strings.IndexByte(hexDigits, s[2])
	low := strings.IndexByte(hexDigits, s[3])
	if high < 0 || low < 0 || printable(byte(high<<4|low)) {
		return 0, 0
	}
	return byte(high<<4 | low), 4
}

// read is a value that s may write, in form or not.
func read(s string) (api.Value, bool) {
	if strings.HasPrefix(s, `"`) {
		word, e := Unquote(s)
		return api.Value{Kind: api.KindWord, Word: word}, e == api.OK
	}
	number, err := strconv.Atoi(s)
	return api.Value{Kind: api.KindInt, Int: number}, err == nil
}
