package shell_test

import (
	"strconv"
	"strings"
	"testing"

	"trommel/api"
	"trommel/script"
	"trommel/shell"
)

// refuses holds that one line is told of a text: which of its lines is wrong.
func refuses(t *testing.T, text string, line int) {
	t.Helper()
	tells(t, text, "refused line "+strconv.Itoa(line))
	if _, wrong, e := script.Parse(text); wrong != line || e != api.ErrSyntax {
		t.Fatalf("Parse(%q) = %d, %d", text, wrong, e)
	}
}

// P26.1: a text without a byte, and others whose first line is no config's.
func TestFirstLineRefused(t *testing.T) {
	for _, text := range []string{
		"", "\n", "\n\n", " ", "x", "\x00", "\xff\n", "config", "config 1 2 3", "config 1 2 3\n", "config 9 9 9 9 2 1 1 2", "config 9 9 9 9 2 1 1 2 \n", "config 09 9 9 9 2 1 1 2\n", "config 9 9 9 9 2 1 1 9223372036854775808\n", " config 9 9 9 9 2 1 1 2\n", "\n" + plain, "attr a int\n" + plain, "drain\n", "x\n" + plain + "drain\n", "refused line 1\n",
	} {
		refuses(t, text, 1)
	}
}

// P26.1: an attribute's line.
func TestAttributeRefused(t *testing.T) {
	const head = "config 9 9 9 9 2 1 1 2\n"
	for _, line := range []string{"attr", "attr a", "attr a float", "attr A int", "attr a int ", "attr  a int", "attr a int int", "attr " + strings.Repeat("n", api.MaxName+1) + " int", "attr é word", "attr \"a\" word"} {
		refuses(t, head+line+"\n", 2)
		refuses(t, head+"attr b word\n"+line+"\ndrain\n", 3)
	}
	refuses(t, head+"attr a int\nattr a int\ndrain\n", 3)
	refuses(t, head+"attr a int\nattr b int\nattr a word\n", 4)
	refuses(t, head+"attr a int\ndrain\nattr b int\n", 4)
	var many strings.Builder
	for i := range api.MaxAttrs {
		many.WriteString("attr a" + strconv.Itoa(i) + " int\n")
	}
	tells(t, head+many.String(), "order", "registry 0 0 1")
	refuses(t, head+many.String()+"attr b int\n", api.MaxAttrs+2)
}

// P26.1: an op's line; what stands ahead of it isn't done, or at least not told.
func TestOpRefused(t *testing.T) {
	for _, line := range []string{
		"", " ", "x", "drain ", " drain", "drain 1", "stop 1", "tidy 1", "step", "step ", "step 01", "step +1", "step -0", "step 1  2", "step 9223372036854775808", "arm", "arm 1", "arm 1 2 3", "arm x 2", "crash x", "crash ", "crash 1.0", "call", "call 0", "call 8 unsub 1", "call -1 unsub 1", "call 0 unsub 0", "call 0 unsub 1099511627777", "call 0 unsub", "call 0 sub a", "call 0 sub \"a", "call 0 sub \"\\x41\"", "call 0 replace \"a {1}\"", "call 0 replace 0 \"a {1}\"", "call 0 match a=01", "call 0 match a", "call 0 match A=1", "call 0 match a=2147483648", "call 0 take 1", "Drain", "drain\r", "config 9 9 9 9 2 1 1 2",
		"call 0 sub \"" + strings.Repeat("x", api.MaxText+1) + "\"", "call 0 match c=\"" + strings.Repeat("x", api.MaxWord+1) + "\"", "1 ok", "registry 0 0 1",
	} {
		refuses(t, plain+line+"\n", 4)
		refuses(t, plain+"drain\ncall 0 sub \"a {1}\"\ncrash\n"+line+"\ndrain\n", 7)
	}
}

// P26.1: the last line, which has no line end, or is one op more than there may be.
func TestLastLineRefused(t *testing.T) {
	for _, line := range []string{"drain", "attr b int", "crash", "x", "call 0 sub \"a {1}\""} {
		refuses(t, plain+line, 4)
	}
	refuses(t, plain+"drain\ndrain", 5)
	ops := strings.Repeat("stop\n", api.MaxOps)
	if told := shell.Run(plain + ops); strings.Count(told, "\n") != api.MaxOps+2 || !strings.HasSuffix(told, "\n4096 ok\norder\nregistry 0 0 1\n") {
		t.Errorf("of MaxOps ops is told %q", told)
	}
	refuses(t, plain+ops+"stop\n", api.MaxOps+4)
	refuses(t, plain+strings.TrimSuffix(ops, "\n"), api.MaxOps+3)
}
