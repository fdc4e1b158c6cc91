package lex_test

import (
	"fmt"
	"math/rand"
	"regexp"
	"slices"
	"strconv"
	"strings"
	"testing"

	"trommel/api"
	"trommel/lex"
)

func name(from, to int, text string) api.Token {
	return api.Token{Kind: api.TokName, From: from, To: to, Text: text}
}

func number(from, to, n int) api.Token {
	return api.Token{Kind: api.TokInt, From: from, To: to, Int: n}
}

func word(from, to int, text string) api.Token {
	return api.Token{Kind: api.TokWord, From: from, To: to, Text: text}
}

func sign(at int, text string) api.Token {
	return api.Token{Kind: api.TokSign, From: at, To: at + 1, Text: text}
}

// accept holds Tokens to tokens, to the place 0 and to OK.
func accept(t *testing.T, text string, want ...api.Token) {
	t.Helper()
	if l, p, e := lex.Tokens(text); e != api.OK || p != 0 || !slices.Equal(l, want) {
		t.Errorf("Tokens(%.50q) = %v, %d, %d, not %v", text, l, p, e, want)
	}
}

// refuse holds Tokens to ErrSyntax at a place, beside which there are no tokens (rule 3).
func refuse(t *testing.T, text string, place int) {
	t.Helper()
	if l, p, e := lex.Tokens(text); e != api.ErrSyntax || p != place || len(l) != 0 {
		t.Errorf("Tokens(%.50q) = %v, %d, %d, not refused at %d", text, l, p, e, place)
	}
}

// P3.1: Blank, of every byte.
func TestBlank(t *testing.T) {
	for c := range 256 {
		if want := c == 0x20 || c == 0x09 || c == 0x0a || c == 0x0d; lex.Blank(byte(c)) != want {
			t.Errorf("Blank(%#x) is %t", c, !want)
		}
	}
}

// P3.1: tokens of every kind, the chapter's examples among them.
func TestTokens(t *testing.T) {
	accept(t, "")
	accept(t, " \t\n\r")
	accept(t, "a {1, -2}", name(0, 1, "a"), sign(2, "{"), number(3, 4, 1), sign(4, ","), number(6, 8, -2), sign(8, "}"))
	accept(t, `tag "x y"*`, name(0, 3, "tag"), word(4, 9, "x y"), sign(9, "*"))
	accept(t, "12ab", number(0, 2, 12), name(2, 4, "ab"))
	accept(t, "\r\n\ta\t\n \r", name(3, 4, "a"))
	accept(t, "a_9b", name(0, 4, "a_9b"))
	accept(t, "a1 1a", name(0, 2, "a1"), number(3, 4, 1), name(4, 5, "a"))
	accept(t, "1-2", number(0, 1, 1), number(1, 3, -2))
	accept(t, "a-2", name(0, 1, "a"), number(1, 3, -2))
	accept(t, "0", number(0, 1, 0))
	accept(t, `""`, word(0, 2, ""))
	accept(t, `"a""b"`, word(0, 3, "a"), word(3, 6, "b"))
	accept(t, `"\\"a"\""`, word(0, 4, `\`), name(4, 5, "a"), word(5, 9, `"`))
	accept(t, `"\\\""`, word(0, 6, `\"`))
	accept(t, `"\x00\xff{a} & 1"`, word(0, 17, "\x00\xff{a} & 1"))
	accept(t, "a\x20\"\x20\"", name(0, 1, "a"), word(2, 5, " "))
	var signs []api.Token
	for i, c := range "{}[](),!|&*" {
		signs = append(signs, sign(i, string(c)))
	}
	accept(t, "{}[](),!|&*", signs...)
}

// P3.1: texts out of the language, the chapter's examples among them.
func TestTokensRefuse(t *testing.T) {
	for text, place := range map[string]int{
		"a = 1": 2, "a {01}": 3, `"x`: 0, "- 1": 0, "A": 0,
		"-": 0, "--1": 0, "-a": 0, "-0": 0, "00": 0, "007": 0, "-01": 0, "1 00": 2, "a+1": 1, "+1": 0, "_": 0, "_a": 0, "a _": 2,
		"aB": 1, "aé": 1, "é": 0, "a\x00": 1, "\x00": 0, "\xff": 0, "\v": 0, "a\fb": 1, "a\u00a0": 1, "a.b": 1, "1.5": 1, "a;": 1, "'x'": 0, "a < 1": 2, "~a": 0,
		`"`: 0, `a "`: 2, `"\`: 0, `"\"`: 0, `"x\"`: 0, `"x\\\"`: 0, `"x""`: 3, `"x" "y`: 4,
		`"\n"`: 0, `"\x"`: 0, `"\x4"`: 0, `"\x41"`: 0, `"\xFF"`: 0, `"\x0g"`: 0, `"\a"`: 0, `"\ "`: 0, "\"\n\"": 0, "\"\x7f\"": 0, "\"é\"": 0, "\"\x00\"": 0,
		"a {1} & \"\t\" =": 8, "= \"": 0, "\" =": 0, "2147483648": 0, "-2147483649": 0, "a {99999999999999999999}": 3,
		"a " + strings.Repeat("9", 4000): 2, `a "` + strings.Repeat("x", 4000): 2, `a "` + strings.Repeat(`\`, 4000): 2,
	} {
		refuse(t, text, place)
	}
}

// P3.1: a byte that begins no token, of every byte.
func TestBytes(t *testing.T) {
	for c := range 256 {
		b := string([]byte{byte(c)})
		switch {
		case strings.Contains(" \t\n\r", b):
			accept(t, b)
		case strings.Contains("{}[](),!|&*", b):
			accept(t, b, sign(0, b))
		case c >= 'a' && c <= 'z':
			accept(t, b, name(0, 1, b))
		case c >= '0' && c <= '9':
			accept(t, b, number(0, 1, c-'0'))
		default:
			refuse(t, b, 0)
			refuse(t, "a {"+b, 3)
		}
	}
}

// P3.1: the edges of names, words and numbers.
func TestLimits(t *testing.T) {
	for _, rest := range []string{"a", "z", "9", "_"} {
		long := "n" + strings.Repeat(rest, 31)
		accept(t, long, name(0, 32, long))
		accept(t, " "+long+" ", name(1, 33, long))
		accept(t, long+"-1", name(0, 32, long), number(32, 34, -1))
		refuse(t, long+rest, 0)
		refuse(t, "a "+long+rest, 2)
		refuse(t, "a "+long+strings.Repeat(rest, 1000), 2)
	}
	for written, meant := range map[string]string{"x": "x", `\xff`: "\xff", `\\`: `\`, `\"`: `"`, " ": " "} {
		full := `"` + strings.Repeat(written, 64) + `"`
		accept(t, full, word(0, len(full), strings.Repeat(meant, 64)))
		accept(t, full+full, word(0, len(full), strings.Repeat(meant, 64)), word(len(full), 2*len(full), strings.Repeat(meant, 64)))
		refuse(t, `a "`+strings.Repeat(written, 65)+`"`, 2)
		refuse(t, `"`+strings.Repeat(written, 64), 0)
	}
	for _, n := range []int{api.Least, api.Least + 1, -10, -1, 0, 1, 9, 10, api.Most - 1, api.Most} {
		text := strconv.Itoa(n)
		accept(t, text, number(0, len(text), n))
		accept(t, "{"+text+"}", sign(0, "{"), number(1, 1+len(text), n), sign(1+len(text), "}"))
	}
	for _, text := range []string{"2147483648", "-2147483649", "4294967296", "9223372036854775807", "-9223372036854775808", "18446744073709551617"} {
		refuse(t, "{"+text+"}", 1)
	}
}

// P3.1: a text of 4096 bytes, and of more: that place is ahead of all else.
func TestLongTexts(t *testing.T) {
	accept(t, strings.Repeat(" ", 4096))
	accept(t, strings.Repeat(" ", 4095)+"a", name(4095, 4096, "a"))
	accept(t, strings.Repeat(" ", 4094)+`""`, word(4094, 4096, ""))
	refuse(t, strings.Repeat(" ", 4095)+"=", 4095)
	refuse(t, "="+strings.Repeat(" ", 4095), 0)
	refuse(t, `"`+strings.Repeat(" ", 4095), 0)
	for _, text := range []string{
		strings.Repeat(" ", 4097), strings.Repeat("!", 4097), strings.Repeat(" ", 4096) + "=", "=" + strings.Repeat(" ", 4096),
		strings.Repeat("a", 4097), strings.Repeat("1", 4097), `"` + strings.Repeat("x", 4096), strings.Repeat("a ", 100000),
	} {
		refuse(t, text, 4096)
	}
	tokens, p, e := lex.Tokens(strings.Repeat("(", 4096))
	if e != api.OK || p != 0 || len(tokens) != 4096 || tokens[4095] != sign(4095, "(") {
		t.Errorf("4096 signs: %d tokens, %d, %d", len(tokens), p, e)
	}
}

var (
	blanks     = regexp.MustCompile(`^[ \t\n\r]*`)
	piece      = regexp.MustCompile(`(?s)^(?:[a-z][a-z0-9_]*|-[0-9]*|[0-9]+|"(?:[^"\\]|\\.)*"|[{}\[\](),!|&*])`)
	goodNumber = regexp.MustCompile(`^(?:0|-?[1-9][0-9]{0,9})$`)
	goodWord   = regexp.MustCompile(`^"(?:[ !#-\[\]-~]|\\"|\\\\|\\x[01][0-9a-f]|\\x7f|\\x[89a-f][0-9a-f])*"$`)
)

// wantToken is what the chapter tells of a piece of a text, written another way.
func wantToken(from int, text string) (api.Token, bool) {
	out := api.Token{From: from, To: from + len(text)}
	switch c := text[0]; {
	case c >= 'a' && c <= 'z':
		out.Kind, out.Text = api.TokName, text
		return out, len(text) <= 32
	case c == '-' || c >= '0' && c <= '9':
		n, err := strconv.ParseInt(text, 10, 32)
		out.Kind, out.Int = api.TokInt, int(n)
		return out, err == nil && goodNumber.MatchString(text)
	case c == '"':
		if !goodWord.MatchString(text) {
			return out, false
		}
		w, err := strconv.Unquote(text)
		out.Kind, out.Text = api.TokWord, w
		return out, err == nil && len(w) <= 64
	}
	out.Kind, out.Text = api.TokSign, text
	return out, true
}

// wantTokens is Tokens of a text that isn't too long, by regular expressions; a place of -1: none is refused.
func wantTokens(text string) ([]api.Token, int) {
	var out []api.Token
	for at := 0; ; {
		at += len(blanks.FindString(text[at:]))
		if at == len(text) {
			return out, -1
		}
		found := piece.FindString(text[at:])
		if found == "" {
			return nil, at
		}
		token, ok := wantToken(at, found)
		if !ok {
			return nil, at
		}
		out = append(out, token)
		at = token.To
	}
}

// each calls f with all texts of up to length bytes of an alphabet.
func each(alphabet string, length int, f func(string)) {
	var grow func(string)
	grow = func(text string) {
		f(text)
		if len(text) < length {
			for i := range len(alphabet) {
				grow(text + alphabet[i:i+1])
			}
		}
	}
	grow("")
}

// someTexts calls f with short texts of all kinds, then with longer ones drawn from pieces, alike in each run; not behind a fault, for one is enough to tell.
func someTexts(t *testing.T, check func(string)) {
	f := func(text string) {
		if !t.Failed() {
			check(text)
		}
	}
	each("a_10- \"\\x{=", 5, f)
	each("\"\\x7f ", 7, f)
	each("-019 \n", 6, f)
	pieces := []string{"a", "name_9", "&", "|", "!", "(", ")", "{", "}", "[", "]", ",", "*", "0", "-7", "2147483647", `"x y"`, `"\\"`, `"\xff"`, `""`, " ", "\n", "\t ", strings.Repeat("n", 32), "=", "A", `"`, `\`, "01", "-", strings.Repeat("n", 33)}
	r := rand.New(rand.NewSource(1))
	for range 20000 {
		text := ""
		for range r.Intn(12) {
			// The last seven are wrong: rarely drawn, so that long texts are right too.
			most := len(pieces) - 7
			if r.Intn(40) == 0 {
				most = len(pieces)
			}
			text += pieces[r.Intn(most)]
		}
		f(text)
	}
}

// P3.1: at very many texts Tokens answers what the chapter tells.
func TestManyTexts(t *testing.T) {
	good := 0
	someTexts(t, func(text string) {
		want, place := wantTokens(text)
		if place >= 0 {
			refuse(t, text, place)
			return
		}
		accept(t, text, want...)
		good++
	})
	if good < 10000 {
		t.Errorf("only %d texts had tokens", good)
	}
}

// bare are tokens without their places.
func bare(tokens []api.Token) []api.Token {
	out := slices.Clone(tokens)
	for i := range out {
		out[i].From, out[i].To = 0, 0
	}
	return out
}

// gapFault tells what is wrong with the places of a text's tokens.
func gapFault(text string, tokens []api.Token) string {
	at := 0
	for _, token := range append(slices.Clone(tokens), api.Token{From: len(text), To: len(text) + 1}) {
		if token.From < at || token.To <= token.From {
			return fmt.Sprintf("the token %v doesn't rise", token)
		}
		if strings.Trim(text[at:token.From], " \t\n\r") != "" {
			return fmt.Sprintf("ahead of %v isn't blank", token)
		}
		at = token.To
	}
	return ""
}

// P3.2: tokens rise with blanks alone between them, and written anew they are the same.
func TestTokensRise(t *testing.T) {
	someTexts(t, func(text string) {
		tokens, _, e := lex.Tokens(text)
		if e != api.OK {
			return
		}
		if fault := gapFault(text, tokens); fault != "" {
			t.Errorf("Tokens(%q): %s", text, fault)
		}
		var pieces []string
		for _, token := range tokens {
			pieces = append(pieces, text[token.From:token.To])
		}
		anew := strings.Join(pieces, " ")
		if again, p, e := lex.Tokens(anew); e != api.OK || p != 0 || !slices.Equal(bare(again), bare(tokens)) {
			t.Errorf("Tokens(%q) = %v, %d, %d, but Tokens(%q) = %v", anew, again, p, e, text, tokens)
		}
	})
}

// P3.3: what stands ahead of a refused place has tokens.
func TestAheadOfAFault(t *testing.T) {
	someTexts(t, func(text string) {
		if _, p, e := lex.Tokens(text); e == api.ErrSyntax {
			want, _ := wantTokens(text[:p])
			accept(t, text[:p], want...)
		}
	})
}

// Rule 5: what Tokens answers is new memory each time.
func TestTokensAreNew(t *testing.T) {
	text := `a {1} & tag "x"*`
	first, _, _ := lex.Tokens(text)
	want := slices.Clone(first)
	second, _, _ := lex.Tokens(text)
	_ = append(first, sign(0, "!"))
	clear(first)
	if !slices.Equal(second, want) {
		t.Errorf("two answers share memory: %v", second)
	}
	accept(t, text, want...)
}
