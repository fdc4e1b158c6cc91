package value_test

import (
	"fmt"
	"math"
	"slices"
	"strconv"
	"strings"
	"testing"

	"trommel/api"
	"trommel/value"
)

func number(n int) api.Value { return api.Value{Kind: api.KindInt, Int: n} }

func word(w string) api.Value { return api.Value{Kind: api.KindWord, Word: w} }

// texts are all texts of up to length bytes of an alphabet.
func texts(alphabet string, length int) []string {
	out := []string{""}
	for from := 0; length > 0; length-- {
		to := len(out)
		for _, t := range out[from:to] {
			for i := range len(alphabet) {
				out = append(out, t+alphabet[i:i+1])
			}
		}
		from = to
	}
	return out
}

func allBytes() string {
	b := make([]byte, 256)
	for i := range b {
		b[i] = byte(i)
	}
	return string(b)
}

// mixed are values in form and out of it, of all kinds, without one twice.
func mixed() []api.Value {
	var out []api.Value
	for _, kind := range []int{math.MinInt, -1, 0, api.KindInt, api.KindWord, 3, math.MaxInt} {
		for _, n := range []int{math.MinInt, api.Least - 1, api.Least, -1, 0, 1, api.Most, api.Most + 1, math.MaxInt} {
			for _, w := range []string{"", "\x00", "a", "a\x00", "ab", "b", "\x7f", "\x80", "\xff", strings.Repeat("w", 64), strings.Repeat("w", 65)} {
				out = append(out, api.Value{Kind: kind, Int: n, Word: w})
			}
		}
	}
	return out
}

// wantQuote is Quote as the chapter tells it, written another way.
func wantQuote(s string) string {
	out := ""
	for _, c := range []byte(s) {
		switch {
		case c == '"':
			out += `\"`
		case c == '\\':
			out += `\\`
		case c < 0x20 || c > 0x7e:
			out += fmt.Sprintf(`\x%02x`, c)
		default:
			out += string(rune(c))
		}
	}
	return `"` + out + `"`
}

// P1.1: Check.
func TestCheck(t *testing.T) {
	good := []api.Value{
		number(0), number(-1), number(api.Least), number(api.Most),
		word(""), word("a"), word("\x00\xff\"\\"), word(strings.Repeat("w", 64)), word(strings.Repeat("\xff", 64)),
	}
	for _, v := range good {
		if e := value.Check(v); e != api.OK {
			t.Errorf("Check(%#v) = %d", v, e)
		}
	}
	bad := []api.Value{
		{}, {Kind: 3}, {Kind: -1}, {Word: "a"}, {Int: 1},
		number(api.Least - 1), number(api.Most + 1), number(math.MinInt), number(math.MaxInt),
		{Kind: api.KindInt, Int: 1, Word: "a"}, {Kind: api.KindInt, Word: "a"},
		{Kind: api.KindWord, Int: 1}, {Kind: api.KindWord, Int: -1, Word: "a"},
		word(strings.Repeat("w", 65)), word(strings.Repeat("w", 100000)),
	}
	for _, v := range bad {
		if e := value.Check(v); e != api.ErrForm {
			t.Errorf("Check(%#v) = %d", v, e)
		}
	}
}

// P1.1: Same and Compare, at any values, each held against fields.
func TestSameAndCompare(t *testing.T) {
	list := mixed()
	for i, a := range list {
		for j, b := range list {
			same := a.Kind == b.Kind && a.Int == b.Int && a.Word == b.Word
			if value.Same(a, b) != same || same != (i == j) {
				t.Fatalf("Same(%#v, %#v) = %t", a, b, !same)
			}
			want := 0
			switch {
			case a.Kind != b.Kind:
				want = sign(a.Kind < b.Kind)
			case a.Int != b.Int:
				want = sign(a.Int < b.Int)
			case a.Word != b.Word:
				want = sign(a.Word < b.Word)
			}
			if got := value.Compare(a, b); got != want {
				t.Fatalf("Compare(%#v, %#v) = %d, not %d", a, b, got, want)
			}
		}
	}
	examples := []struct {
		a, b api.Value
		want int
	}{
		{number(9), word("a"), -1},
		{word("a"), number(9), 1},
		{word("a"), word("ab"), -1},
		{word("b"), word("ab"), 1},
		{number(-2), number(-1), -1},
		{number(10), number(9), 1},
		{word("\xff"), word("a"), 1},
		{word("a"), word("a"), 0},
	}
	for _, x := range examples {
		if got := value.Compare(x.a, x.b); got != x.want {
			t.Errorf("Compare(%#v, %#v) = %d", x.a, x.b, got)
		}
	}
}

func sign(ahead bool) int {
	if ahead {
		return -1
	}
	return 1
}

// P1.3: a total order, 0 just for the same.
func TestCompareIsTotalOrder(t *testing.T) {
	var list []api.Value
	for _, kind := range []int{-1, 0, api.KindInt, api.KindWord, 3} {
		for _, n := range []int{api.Least - 1, 0, 5} {
			for _, w := range []string{"", "a", "ab", "b"} {
				list = append(list, api.Value{Kind: kind, Int: n, Word: w})
			}
		}
	}
	for _, a := range list {
		for _, b := range list {
			ab := value.Compare(a, b)
			if ab != -value.Compare(b, a) || (ab == 0) != value.Same(a, b) || ab < -1 || ab > 1 {
				t.Fatalf("Compare(%#v, %#v) = %d", a, b, ab)
			}
			for _, c := range list {
				if ab <= 0 && value.Compare(b, c) <= 0 && value.Compare(a, c) > 0 {
					t.Fatalf("%#v, %#v, %#v: no order", a, b, c)
				}
			}
		}
	}
}

// P1.1, P1.2: Quote of every text of up to two bytes, and what it is unquoted to.
func TestQuote(t *testing.T) {
	list := texts(allBytes(), 2)
	list = append(list, allBytes(), strings.Repeat("\"\\\n a", 50000), "ä€\U0001F600", "\xff\xfe", `\x0a`)
	for _, s := range list {
		q := value.Quote(s)
		if len(s) < 1000 && q != wantQuote(s) {
			t.Fatalf("Quote(%q) = %s", s, q)
		}
		if back, e := value.Unquote(q); e != api.OK || back != s {
			t.Fatalf("Unquote(%s) = %q, %d", q, back, e)
		}
	}
	for s, want := range map[string]string{
		"": `""`, `a"b`: `"a\"b"`, "\n": `"\x0a"`, `\`: `"\\"`, "~": `"~"`, " ": `" "`,
		"\x1f": `"\x1f"`, "\x7f": `"\x7f"`, "\x80": `"\x80"`, "\xff": `"\xff"`, "é": `"\xc3\xa9"`,
	} {
		if q := value.Quote(s); q != want {
			t.Errorf("Quote(%q) = %s", s, q)
		}
	}
}

// P1.1, P1.2: Unquote takes the texts that Quote answers, and no others.
func TestUnquoteTakesQuotesAlone(t *testing.T) {
	quotes := map[string]string{}
	for _, s := range texts("\n\x00\xaax\\\"aA014 ", 3) {
		quotes[wantQuote(s)] = s
	}
	for _, inner := range texts("\\\"xaA014 \n", 5) {
		s := `"` + inner + `"`
		want, ok := quotes[s]
		got, e := value.Unquote(s)
		if e == api.OK && wantQuote(got) != s || e != api.OK && (e != api.ErrSyntax || got != "") {
			t.Fatalf("Unquote(%q) = %q, %d", s, got, e)
		}
		if ok && (e != api.OK || got != want) {
			t.Fatalf("Unquote(%q) = %q, %d, not %q", s, got, e, want)
		}
	}
	for hex := range 256 {
		for _, form := range []string{"\"\\x%02x\"", "\"\\x%02X\"", "\"\\X%02x\"", "\"\\x%x\"", "\"\\%03o\""} {
			s := fmt.Sprintf(form, hex)
			got, e := value.Unquote(s)
			taken := wantQuote(string([]byte{byte(hex)})) == s
			if taken != (e == api.OK) || taken && got != string([]byte{byte(hex)}) {
				t.Errorf("Unquote(%s) = %q, %d", s, got, e)
			}
		}
	}
	for _, s := range []string{
		"", `"`, `a`, `"a`, `a"`, `a"b"`, `"b"a`, ` "a"`, `"a" `, `"a"b"`, `"""`, `"\"`, `"\\\"`, `"\n"`, `"\x"`, `"\x0"`,
		`"\x0g"`, `"\x0A"`, `"\x41"`, `"\x22"`, `"\x5c"`, `"\x20"`, `"\x7e"`, "\"\n\"", "\"\x7f\"", "\"\xc3\xa9\"", `'a'`, "`a`",
	} {
		if got, e := value.Unquote(s); e != api.ErrSyntax || got != "" {
			t.Errorf("Unquote(%q) = %q, %d", s, got, e)
		}
	}
}

// P1.1: Text, and its error for all that isn't in form.
func TestText(t *testing.T) {
	for v, want := range map[api.Value]string{
		number(0): "0", number(-1): "-1", number(7): "7", number(100): "100",
		number(api.Least): "-2147483648", number(api.Most): "2147483647",
		word(`a"b`): `"a\"b"`, word("\n"): `"\x0a"`, word(""): `""`, word("12"): `"12"`,
		word(strings.Repeat("w", 64)): `"` + strings.Repeat("w", 64) + `"`,
	} {
		if s, e := value.Text(v); e != api.OK || s != want {
			t.Errorf("Text(%#v) = %s, %d", v, s, e)
		}
	}
	for _, v := range mixed() {
		s, e := value.Text(v)
		if e != value.Check(v) || e != api.OK && s != "" {
			t.Fatalf("Text(%#v) = %s, %d", v, s, e)
		}
	}
}

// P1.1: Parse refuses all that is no value's text.
func TestParseRefuses(t *testing.T) {
	for _, s := range []string{
		"", "007", "00", "01", "+1", "+0", "-0", "-01", "--1", "-", "+", " 1", "1 ", "1_0", "0x1", "1e3", "1.0", "a", "1a",
		"2147483648", "-2147483649", "9223372036854775807", "-9223372036854775808", "9223372036854775808",
		"4294967296", "18446744073709551616", strings.Repeat("1", 10000), "0" + strings.Repeat("0", 10000), "١", "1\x00",
		`"a`, `a"`, `"`, `"\x41"`, `"\x0A"`, `"a"b"`, `"a" `, ` "a"`, `'a'`, "\"\n\"",
		value.Quote(strings.Repeat("w", 65)), value.Quote(strings.Repeat("\n", 65)), value.Quote(strings.Repeat("w", 100000)),
	} {
		if v, e := value.Parse(s); e != api.ErrSyntax || v != (api.Value{}) {
			t.Errorf("Parse(%q) = %#v, %d", s, v, e)
		}
	}
}

// P1.2: Parse(Text(v)) is v.
func TestParseOfText(t *testing.T) {
	list := slices.DeleteFunc(mixed(), func(v api.Value) bool { return value.Check(v) != api.OK })
	for n := api.Least; n <= api.Most; n += 999983 {
		list = append(list, number(n), number(n/100003))
	}
	for n := 1; n <= api.Most; n *= 10 {
		list = append(list, number(n-1), number(n), number(n+1), number(-n-1), number(-n), number(1-n))
	}
	for _, w := range texts(allBytes(), 1) {
		list = append(list, word(w), word(strings.Repeat(w, 64)))
	}
	for _, v := range list {
		s, e := value.Text(v)
		if e != api.OK {
			t.Fatalf("Text(%#v): %d", v, e)
		}
		if got, e := value.Parse(s); e != api.OK || got != v {
			t.Fatalf("Parse(%s) = %#v, %d", s, got, e)
		}
	}
}

// P1.2: what Parse takes is Text of its answer, and it takes all that is.
func TestTextOfParse(t *testing.T) {
	for _, s := range texts("-+019 \"\\xan", 5) {
		v, e := value.Parse(s)
		if taken := valuesText(s); taken != (e == api.OK) {
			t.Fatalf("Parse(%q): %d", s, e)
		}
		if e != api.OK {
			continue
		}
		if back, e := value.Text(v); e != api.OK || back != s {
			t.Fatalf("Text(Parse(%q)) = %q, %d", s, back, e)
		}
	}
}

// valuesText tells, by other means than Parse, whether a short text is a value's.
func valuesText(s string) bool {
	digits := strings.TrimPrefix(s, "-")
	if s == "0" || digits != "" && digits[0] != '0' && strings.Trim(digits, "0123456789") == "" {
		return true
	}
	unquoted, err := strconv.Unquote(s)
	return err == nil && strings.HasPrefix(s, `"`) && wantQuote(unquoted) == s
}

// P1.1, P1.3: Least is one of those handed in, and ahead of all others or the same.
func TestLeast(t *testing.T) {
	if v, ok := value.Least(); ok || v != (api.Value{}) {
		t.Errorf("Least() = %#v, %t", v, ok)
	}
	if v, ok := value.Least([]api.Value{}...); ok || v != (api.Value{}) {
		t.Errorf("Least of an empty list = %#v, %t", v, ok)
	}
	if v, ok := value.Least(number(9), number(-1), word("a")); !ok || v != number(-1) {
		t.Errorf("Least = %#v, %t", v, ok)
	}
	list := mixed()
	for i, a := range list {
		if v, ok := value.Least(a); !ok || v != a {
			t.Fatalf("Least(%#v) = %#v, %t", a, v, ok)
		}
		few := []api.Value{a, list[(i*7+3)%len(list)], list[(i*31+11)%len(list)], a}
		v, ok := value.Least(few...)
		if !ok || !slices.Contains(few, v) {
			t.Fatalf("Least(%#v) = %#v, %t", few, v, ok)
		}
		for _, b := range few {
			if value.Compare(v, b) > 0 {
				t.Fatalf("Least(%#v) = %#v", few, v)
			}
		}
	}
}

// Rule 5: what is handed in stays as it was, the room behind it too.
func TestLeastLeavesItsList(t *testing.T) {
	room := []api.Value{word("b"), number(3), word("a"), number(1), number(-9), word("")}
	before := slices.Clone(room)
	if v, ok := value.Least(room[:4]...); !ok || v != number(1) {
		t.Errorf("Least = %#v, %t", v, ok)
	}
	if !slices.Equal(room, before) {
		t.Errorf("changed: %#v", room)
	}
}
