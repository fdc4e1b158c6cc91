package script_test

import (
	"math/rand/v2"
	"strconv"
	"strings"
	"testing"

	"trommel/api"
	"trommel/script"
)

const head = "config 1 1 1 1 1 1 1 1\n"

// P25.1: a text without a byte; one that has line ends alone.
func TestNoText(t *testing.T) {
	wrong(t, "", 1)
	wrong(t, "\n", 1)
	wrong(t, "\n\n", 1)
	wrong(t, "\n"+head, 1)
	wrong(t, " ", 1)
	wrong(t, "\x00", 1)
}

// P25.1: the first line, if it isn't a config's.
func TestFirstLine(t *testing.T) {
	for _, line := range []string{
		"config", "config ", "config 1", "config 1 2 3", "config 1 2 3 4 5 6 7", "config 1 2 3 4 5 6 7 ", "config 1 2 3 4 5 6 7 8 9", "config 1 2 3 4 5 6 7 8 ", " config 1 2 3 4 5 6 7 8", "config  1 2 3 4 5 6 7 8", "config 1 2 3 4  5 6 7 8", "config1 2 3 4 5 6 7 8", "config 12 3 4 5 6 7 8", "config\t1 2 3 4 5 6 7 8",
		"Config 1 2 3 4 5 6 7 8", "conf 1 2 3 4 5 6 7 8", "configs 1 2 3 4 5 6 7 8", "1 2 3 4 5 6 7 8", "attr a int", "drain", "step 1 2 3 4 5 6 7 8", "call 0 unsub 1", `"config" 1 2 3 4 5 6 7 8`, "config 1,2,3,4,5,6,7,8", "config 1 2 3 4 5 6 7 8\r", "config 1 2 3 4 5 6 7 8\x00", "config a 2 3 4 5 6 7 8", `config "1" 2 3 4 5 6 7 8`, `config 1 2 3 4 5 6 7 "8`, `config 1 2 3 4 5 6 7 8"`, `config 1 2 3 4 5 6 7\ 8`,
	} {
		wrong(t, line+"\n", 1)
		wrong(t, line+"\n"+head, 1)
		wrong(t, line+"\ndrain\n", 1)
	}
	for place := range 8 {
		for _, n := range badNumbers() {
			words := strings.Fields("1 2 3 4 5 6 7 8")
			words[place] = n
			wrong(t, "config "+strings.Join(words, " ")+"\ndrain\n", 1)
		}
	}
	wrong(t, head+head, 2)
	wrong(t, head+"drain\n"+head, 3)
}

// badNumbers are written otherwise than layer 1 writes them, or are no ints.
func badNumbers() []string {
	return []string{
		"", "01", "00", "-0", "-01", "+1", "+0", "--1", "-", "+", "1.0", "1e3", "0x1", "0b1", "1_0", "a", "1a", "a1", "\u0661", "1\x00", "1\t", "\t1", "1,", `"1"`, "9223372036854775808", "-9223372036854775809", "18446744073709551616", "18446744073709551617", strings.Repeat("1", 1000), strings.Repeat("0", 1000), "0" + strings.Repeat("0", 20) + "1", "NaN", "inf",
	}
}

// P25.1: numbers wherever one stands.
func TestNumbers(t *testing.T) {
	for _, n := range badNumbers() {
		for _, line := range []string{"step #", "step 1 #", "step # 1", "arm # 1", "arm 1 #", "crash #", "crash 0 # 0", "call # sub \"\"", "call # match", "call # unsub 1", "call 0 unsub #", "call 0 replace # \"\"", "call 0 match a=#", "call 0 match a=# b=1", "call 0 match a=1 b=#"} {
			if n == `"1"` && strings.Contains(line, "=") {
				continue // a word
			}
			wrong(t, head+strings.ReplaceAll(line, "#", n)+"\n", 2)
		}
	}
	for _, n := range edges() {
		text := strconv.Itoa(n)
		for _, line := range []string{"step #", "step 1 #", "arm # 1", "arm 1 #", "crash #", "crash 0 # 0"} {
			if got := parses(t, head+strings.ReplaceAll(line, "#", text)+"\n"); got != 0 {
				t.Errorf("%s with %d: line %d", line, n, got)
			}
		}
		for _, x := range []struct {
			line   string
			lo, hi int
		}{
			{"call # sub \"\"", 0, 7}, {"call # unsub 1", 0, 7}, {"call # match a=1", 0, 7}, {"call # replace 1 \"\"", 0, 7}, {"call 0 unsub #", 1, api.MaxID}, {"call 0 replace # \"\"", 1, api.MaxID}, {"call 0 match a=#", api.Least, api.Most}, {"call 0 match a=1 b=# b=1", api.Least, api.Most},
		} {
			want := 2
			if n >= x.lo && n <= x.hi {
				want = 0
			}
			if got := parses(t, head+strings.ReplaceAll(x.line, "#", text)+"\n"); got != want {
				t.Errorf("%s with %d: line %d, not %d", x.line, n, got, want)
			}
		}
	}
}

// P25.1: an attribute's line, if layer 2 takes no such attribute beside those ahead of it.
func TestAttrLines(t *testing.T) {
	for _, line := range []string{
		"attr", "attr ", "attr a", "attr a ", "attr a in", "attr a ints", "attr a Int", "attr a 1", "attr a number", "attr a int ", " attr a int", "attr  a int", "attr a  int", "attr a int word", "attr int", "attra int", "attr aint", "attr a int\r", "attr a\tint", "Attr a int", "attribute a int", "attr A int", "attr 9 int", "attr _a int", "attr a-b int", "attr " + longName + "n int", "attr \"a\" int", "attr a \"int\"", "attr é int", "attr a=1 int",
	} {
		wrong(t, head+line+"\n", 2)
		wrong(t, head+"attr b word\n"+line+"\nattr c int\n", 3)
		wrong(t, head+"attr b word\ndrain\n"+line+"\n", 4)
	}
	for _, line := range []string{"attr a int", "attr a word", "attr " + longName + " word", "attr int int"} {
		if got := parses(t, head+line+"\n"); got != 0 {
			t.Errorf("%q: line %d", line, got)
		}
		// Twice, at once or later, of the same kind or of another one.
		wrong(t, head+line+"\n"+line+"\n", 3)
		wrong(t, head+line+"\nattr z int\n"+line+"\n", 4)
		wrong(t, head+line+"\n"+strings.TrimSuffix(strings.TrimSuffix(line, " int"), " word")+" word\n", 3)
		// Behind an op.
		wrong(t, head+"drain\n"+line+"\n", 3)
		wrong(t, head+"attr z int\ndrain\ndrain\n"+line+"\ndrain\n", 5)
	}
	// Beyond MaxAttrs.
	text := head
	for i := range api.MaxAttrs {
		text += "attr n" + strconv.Itoa(i) + " int\n"
		if got := parses(t, text+"drain\n"); got != 0 {
			t.Fatalf("%d attributes: line %d", i+1, got)
		}
	}
	wrong(t, text+"attr z int\n", 2+api.MaxAttrs)
	wrong(t, text+"attr z int\nattr y int\ndrain\n", 2+api.MaxAttrs)
	wrong(t, text+"attr n1 int\n", 2+api.MaxAttrs)
}

// P25.1: lines that are no op's.
func TestOpLinesRefused(t *testing.T) {
	for _, line := range []string{
		"", " ", "  ", "x", "\x00", "\r", "\"", "\\", "drain ", " drain", "drain 1", "drain drain", "Drain", "drai", "drains", "drain\r", "drain\t", "\"drain\"", "stop ", "stop 1", "stop x", "tidy ", "tidy 0", "tidy x", "step", "step ", "step  1", "step 1 ", "step 1  2", "step x", "step1", "steps 1", "step 1,2", "step \"1\"", "arm", "arm ", "arm 1", "arm 1 ", "arm 1 2 ", "arm 1 2 3", "arm 1  2", "arm  1 2", "arm x 1", "crash ", "crash  1", "crash 1 ", "crash x", "crashes", "crash1",
		"call", "call ", "call 0", "call 0 ", "call 0 x", "call sub \"\"", "call  0 sub \"\"", "call 0  sub \"\"", "call 0 sub  \"\"", "call 0 sub \"\" ", " call 0 sub \"\"", "call 8 unsub 1", "call -1 unsub 1", "call 0 unsub 0", "call 0 sub", "call 0 sub ", "call 0 sub a", "call 0 sub a {1}", "call 0 sub \"", "call 0 sub \"a", "call 0 sub a\"", "call 0 sub \"a\"b", "call 0 sub \"a\" \"b\"", "call 0 sub \"a\"\"b\"", "call 0 sub \"a\" 1", "call 0 sub 1 \"a\"", "call 0 sub\"a\"", "call 0 sub '\"a\"'", "call 0 Sub \"a\"", "call 0 subs \"a\"", "sub \"a\"", "0 sub \"a\"",
		"call 0 sub \"\\x41\"", "call 0 sub \"\\x0A\"", "call 0 sub \"\\n\"", "call 0 sub \"\\\"", "call 0 sub \"\\x\"", "call 0 sub \"\\x0\"", "call 0 sub \"\x7f\"", "call 0 sub \"\t\"", "call 0 sub \"é\"", "call 0 sub \"\xff\"", "call 0 sub \"\x00\"", "call 0 sub `a`",
		"call 0 replace", "call 0 replace 1", "call 0 replace 1 ", "call 0 replace \"a\"", "call 0 replace \"a\" 1", "call 0 replace 0 \"a\"", "call 0 replace 1  \"a\"", "call 0 replace 1 \"a\" ", "call 0 replace 1 2 \"a\"", "call 0 replace 1 \"a\" \"a\"", "call 0 replace 1 a", "call 0 replace1 \"a\"", "call 0 replace 1\"a\"",
		"call 0 unsub", "call 0 unsub ", "call 0 unsub 1 ", "call 0 unsub  1", "call 0 unsub 1 2", "call 0 unsub 1 \"a\"", "call 0 unsub \"a\"", "call 0 unsub x",
		"call 0 match ", "call 0 match  a=1", "call 0 match a=1 ", "call 0 match a=1  b=1", "call 0 match a", "call 0 match a=", "call 0 match =1", "call 0 match =", "call 0 match a= 1", "call 0 match a =1", "call 0 match a = 1", "call 0 match a==1", "call 0 match a=b", "call 0 match a=1b=2", "call 0 match a=1,b=2", "call 0 match a=\"x", "call 0 match a=\"x\"y", "call 0 match a=\"x\"b=1", "call 0 match a=x\"", "call 0 match A=1", "call 0 match 9=1", "call 0 match _a=1", "call 0 match a-b=1", "call 0 match \"a\"=1", "call 0 match \"a=1\"", "call 0 match é=1", "call 0 match 1", "call 0 match a=01", "call 0 match a=2147483648", "call 0 match a=-2147483649", "call 0 match a=\"\\x41\"", "call 0 match a=\"\\x0A\"", "call 0 match a=\"\t\"", "call 0 match\ta=1", "call 0 matcha=1", "call 0 match a=\"x\\\" b=1",
	} {
		wrong(t, head+line+"\n", 2)
		wrong(t, head+"attr a int\n"+line+"\ndrain\n", 3)
		wrong(t, head+"attr a int\ndrain\nstep 0\n"+line+"\nx\n", 5)
	}
	for _, name := range badNames() {
		if !strings.Contains(name, "\n") {
			wrong(t, head+"call 0 match "+name+"=1\n", 2)
		}
	}
	wrong(t, head+"call 0 match "+longName+"=1 a="+wantQuote(longWord+"w")+"\n", 2)
	wrong(t, head+"call 0 sub "+wantQuote(longText+"t")+"\n", 2)
	wrong(t, head+"call 0 replace 1 "+wantQuote(longText+"\n")+"\n", 2)
	if got := parses(t, head+"call 0 match "+longName+"=1 a="+wantQuote(longWord)+"\ncall 0 sub "+wantQuote(longText)+"\n"); got != 0 {
		t.Errorf("line %d", got)
	}
}

// P25.1: a line without its line end, the last one, whatever stands in it.
func TestNoLineEnd(t *testing.T) {
	wrong(t, strings.TrimSuffix(head, "\n"), 1)
	wrong(t, "x", 1)
	for _, line := range []string{"drain", "attr a int", "x", " ", "crash", "step 1", "config 1 1 1 1 1 1 1 1"} {
		wrong(t, head+line, 2)
		wrong(t, head+"attr b int\ndrain\n"+line, 4)
	}
	for i := range example {
		parses(t, example[:i])
	}
	for i := range example {
		parses(t, example[i:])
	}
}

// P25.1: the line of the op that is one more than MaxOps; attributes don't count.
func TestTooManyOps(t *testing.T) {
	for _, ahead := range []string{"", "attr a int\n", "attr a int\nattr b word\n"} {
		lines := 1 + strings.Count(ahead, "\n")
		for _, op := range []string{"drain\n", "call 0 match a=1\n"} {
			full := head + ahead + strings.Repeat(op, api.MaxOps)
			if got := parses(t, full); got != 0 {
				t.Errorf("MaxOps: line %d", got)
			}
			wrong(t, full+op, lines+api.MaxOps+1)
			wrong(t, full+op+op+"x\n", lines+api.MaxOps+1)
			wrong(t, full+"x\n", lines+api.MaxOps+1)
			wrong(t, full+"attr z int\n", lines+api.MaxOps+1)
			wrong(t, full+"\n", lines+api.MaxOps+1)
			wrong(t, full+"drain", lines+api.MaxOps+1)
			wrong(t, strings.TrimSuffix(full, "\n"), lines+api.MaxOps)
		}
	}
}

// P25.1, P25.3: where two lines are wrong, the first one is told.
func TestFirstOfTwo(t *testing.T) {
	good := strings.SplitAfter(strings.TrimSuffix("config 9 9 9 9 2 1 1 2\nattr a int\nattr b word\ndrain\ncall 0 match a=1\ntidy\n", "\n"), "\n")
	bad := []string{"config 1\n", "attr a int \n", "attr a word\n", "x\n", "call 8 match\n", "tidy"}
	good[5] += "\n"
	for i := range good {
		for j := range i {
			lines := append([]string{}, good...)
			lines[i] = bad[i]
			wrong(t, strings.Join(lines, ""), wantWrong(strings.Join(lines, "")))
			lines[j] = bad[j]
			// The second attribute is wrong only beside the first one.
			if j != 2 {
				wrong(t, strings.Join(lines, ""), j+1)
			}
		}
	}
	wrong(t, head+"attr a int\nattr a int\nattr a int\n", 3)
	wrong(t, head+"drain\nattr a int\nx\n", 3)
	wrong(t, head+"x\ndrain\nattr a int\ndrain", 2)
	wrong(t, "config 1\nattr a int\nattr a int\n", 1)
	wrong(t, "config 1\ndrain", 1)
}

// P25.1, P25.2, P25.3: texts that differ by little from one of a script: a byte less, one more, another one, two lines changed for one another, a line twice.
func TestSpoiltTexts(t *testing.T) {
	chance := rand.New(rand.NewPCG(25, 3))
	taken, refused := 0, 0
	look := func(text string) {
		if parses(t, text) == 0 {
			taken++
		} else {
			refused++
		}
	}
	const bytes = " \"\\\n=x0-1a\x00\xff"
	base := example + "arm 1 2\ntidy\nstop\ncall 0 replace 1 \"\\\" \\x0a\"\ncall 7 unsub 1\ncall 2 match c=\"x y\" a=-1\n"
	for i := range base {
		look(base[:i] + base[i+1:])
		for _, c := range []byte(bytes) {
			look(base[:i] + string([]byte{c}) + base[i:])
			look(base[:i] + string([]byte{c}) + base[i+1:])
		}
	}
	for range 6000 {
		text, _ := script.Text(someScript(chance))
		if len(text) > 3000 {
			continue
		}
		for range 1 + chance.IntN(2) {
			at := chance.IntN(len(text))
			c := string(someOf(chance, []byte(bytes)))
			lines := strings.SplitAfter(text, "\n")
			i, j := chance.IntN(len(lines)), chance.IntN(len(lines))
			switch chance.IntN(5) {
			case 0:
				text = text[:at] + text[at+1:]
			case 1:
				text = text[:at] + c + text[at:]
			case 2:
				text = text[:at] + c + text[at+1:]
			case 3:
				lines[i], lines[j] = lines[j], lines[i]
				text = strings.Join(lines, "")
			case 4:
				text = strings.Join(lines[:i], "") + lines[j] + strings.Join(lines[i:], "")
			}
			if text == "" {
				text = "x"
			}
		}
		look(text)
	}
	if taken < 1500 || refused < 5000 {
		t.Errorf("%d were taken, %d refused: too few to tell much", taken, refused)
	}
}

// P25.1: texts of any bytes.
func TestAnyBytes(t *testing.T) {
	chance := rand.New(rand.NewPCG(25, 4))
	pieces := []string{"config", "attr", "call", "step", "sub", "match", "a", "int", " ", " ", " ", "\n", "\n", "0", "1", "-1", "\"", "\\", "=", "a=1", "\"x\"", head, head, "drain\n", "\xff", "\x00"}
	for range 20000 {
		text := ""
		if chance.IntN(2) == 0 {
			text = head
		}
		for range chance.IntN(10) {
			text += someOf(chance, pieces)
		}
		parses(t, text)
	}
	for _, c := range allBytes() {
		parses(t, string(c))
		parses(t, head+string(c)+"\n")
	}
}

// Rule 1: very long texts end.
func TestLongTexts(t *testing.T) {
	long := strings.Repeat("1 ", 1<<20)
	wrong(t, "config "+long+"\n", 1)
	wrong(t, head+"step "+long+"\n", 2)
	wrong(t, head+"call 0 match "+long+"\n", 2)
	wrong(t, head+strings.Repeat(" ", 1<<20)+"\n", 2)
	wrong(t, head+"call 0 sub "+strings.Repeat("\"", 1<<20)+"\n", 2)
	wrong(t, head+"call 0 sub \""+strings.Repeat("\\", 1<<20)+"\n", 2)
	wrong(t, head+strings.Repeat("\n", 1<<20), 2)
	wrong(t, strings.Repeat("x", 1<<22), 1)
	if got := parses(t, head+"step"+strings.Repeat(" 1", 1<<19)+"\n"); got != 0 {
		t.Errorf("line %d", got)
	}
}
