package script_test

import (
	"fmt"
	"math/big"
	"regexp"
	"slices"
	"strconv"
	"strings"
	"testing"

	"trommel/api"
	"trommel/script"
)

// What the chapter says of a line, as patterns: wantWrong and inForm share no way of working with the package.
const (
	numberForm = `(?:0|-?[1-9][0-9]*)`
	quoteForm  = `"(?:[ !#-\[\]-~]|\\["\\]|\\x(?:[01][0-9a-f]|7f|[89a-f][0-9a-f]))*"`
	nameForm   = `[a-z][a-z0-9_]{0,31}`
	pairForm   = ` ` + nameForm + `=(?:` + numberForm + `|` + quoteForm + `)`
)

var (
	configLine  = regexp.MustCompile(`\Aconfig(?: ` + numberForm + `){8}\z`)
	attrLine    = regexp.MustCompile(`\Aattr (` + nameForm + `) (?:int|word)\z`)
	numsLine    = regexp.MustCompile(`\A(?:step(?: ` + numberForm + `)+|arm ` + numberForm + ` ` + numberForm + `|crash(?: ` + numberForm + `)*)\z`)
	subLine     = regexp.MustCompile(`\Acall [0-7] sub (` + quoteForm + `)\z`)
	replaceLine = regexp.MustCompile(`\Acall [0-7] replace (` + numberForm + `) (` + quoteForm + `)\z`)
	unsubLine   = regexp.MustCompile(`\Acall [0-7] unsub (` + numberForm + `)\z`)
	matchLine   = regexp.MustCompile(`\Acall [0-7] match((?:` + pairForm + `)*)\z`)
	onePair     = regexp.MustCompile(pairForm)
	oneNumber   = regexp.MustCompile(numberForm)
)

// within tells whether a number's text writes one from lo to hi.
func within(text string, lo, hi int) bool {
	n, ok := new(big.Int).SetString(text, 10)
	return ok && n.Cmp(big.NewInt(int64(lo))) >= 0 && n.Cmp(big.NewInt(int64(hi))) <= 0
}

func allInts(line string) bool {
	for _, n := range oneNumber.FindAllString(line, -1) {
		if _, err := strconv.ParseInt(n, 10, 64); err != nil {
			return false
		}
	}
	return true
}

// short tells whether what is quoted has at most so many bytes.
func short(quote string, most int) bool {
	text, err := strconv.Unquote(quote)
	return err == nil && len(text) <= most
}

func wantOpLine(line string) bool {
	if slices.Contains([]string{"drain", "stop", "tidy"}, line) {
		return true
	}
	if numsLine.MatchString(line) {
		return allInts(line)
	}
	if m := subLine.FindStringSubmatch(line); m != nil {
		return short(m[1], api.MaxText)
	}
	if m := replaceLine.FindStringSubmatch(line); m != nil {
		return within(m[1], 1, 1<<40) && short(m[2], 4096)
	}
	if m := unsubLine.FindStringSubmatch(line); m != nil {
		return within(m[1], 1, 1<<40)
	}
	m := matchLine.FindStringSubmatch(line)
	if m == nil {
		return false
	}
	for _, p := range onePair.FindAllString(m[1], -1) {
		_, v, _ := strings.Cut(p, "=")
		if v[0] == '"' && !short(v, 64) || v[0] != '"' && !within(v, -1<<31, 1<<31-1) {
			return false
		}
	}
	return true
}

// wantWrong is the number of the first line that is wrong; 0, if none is.
func wantWrong(text string) int {
	if text == "" {
		return 1
	}
	lines := strings.SplitAfter(text, "\n")
	if lines[len(lines)-1] == "" {
		lines = lines[:len(lines)-1]
	}
	attrs := map[string]int{}
	ops := 0
	for i, line := range lines {
		inner, ended := strings.CutSuffix(line, "\n")
		good := ended
		if m := attrLine.FindStringSubmatch(inner); i == 0 {
			good = good && configLine.MatchString(inner) && allInts(inner)
		} else if m != nil {
			good = good && attrs[m[1]] == 0 && ops == 0 && len(attrs) < 64
			attrs[m[1]]++
		} else {
			ops++
			good = good && wantOpLine(inner) && ops <= 4096
		}
		if !good {
			return i + 1
		}
	}
	return 0
}

func wantQuote(s string) string {
	var q strings.Builder
	q.WriteByte('"')
	for _, c := range []byte(s) {
		switch {
		case c == '"' || c == '\\':
			q.Write([]byte{'\\', c})
		case c >= 0x20 && c <= 0x7e:
			q.WriteByte(c)
		default:
			fmt.Fprintf(&q, `\x%02x`, c)
		}
	}
	return q.String() + `"`
}

// wantLine is the line of an op in form.
func wantLine(o api.Op) string {
	switch o.Kind {
	case api.OpDrain, api.OpStop, api.OpTidy:
		return map[int]string{api.OpDrain: "drain", api.OpStop: "stop", api.OpTidy: "tidy"}[o.Kind]
	case api.OpStep, api.OpArm, api.OpCrash:
		var line strings.Builder
		line.WriteString(map[int]string{api.OpStep: "step", api.OpArm: "arm", api.OpCrash: "crash"}[o.Kind])
		for _, n := range o.Nums {
			fmt.Fprintf(&line, " %d", n)
		}
		return line.String()
	}
	c := o.Call
	switch c.Kind {
	case api.Sub:
		return fmt.Sprintf("call %d sub %s", o.Who, wantQuote(c.Text))
	case api.Replace:
		return fmt.Sprintf("call %d replace %d %s", o.Who, c.ID, wantQuote(c.Text))
	case api.Unsub:
		return fmt.Sprintf("call %d unsub %d", o.Who, c.ID)
	}
	line := fmt.Sprintf("call %d match", o.Who)
	for _, p := range c.Event {
		if p.Kind == api.KindInt {
			line += fmt.Sprintf(" %s=%d", p.Name, p.Int)
		} else {
			line += fmt.Sprintf(" %s=%s", p.Name, wantQuote(p.Word))
		}
	}
	return line
}

// wantText is the text of a script in form.
func wantText(s api.Script) string {
	c := s.Config
	var b strings.Builder
	fmt.Fprintf(&b, "config %d %d %d %d %d %d %d %d\n", c.Depth, c.Conj, c.Subs, c.Total, c.Shards, c.Queue, c.Window, c.Users)
	for _, a := range s.Attrs {
		fmt.Fprintf(&b, "attr %s %s\n", a.Name, []string{"", "int", "word"}[a.Kind])
	}
	for _, o := range s.Ops {
		b.WriteString(wantLine(o) + "\n")
	}
	return b.String()
}

// writes holds that an op has its line, alone and in a script, and that Parse reads it so.
func writes(t *testing.T, o api.Op, want string) {
	t.Helper()
	if model := wantLine(o); model != want {
		t.Fatalf("%v is written %q, not %q", o, model, want)
	}
	if line, e := script.Op(o); line != want || e != api.OK {
		t.Fatalf("Op(%v) = %q, %d, not %q", o, line, e, want)
	}
	goes(t, api.Script{Ops: []api.Op{o}})
	goes(t, api.Script{Ops: []api.Op{{Kind: api.OpDrain}, o, {Kind: api.OpStep, Nums: []int{1}}, o}})
}

// refuses holds that an op isn't in form, alone and wherever it stands in a script.
func refuses(t *testing.T, o api.Op) {
	t.Helper()
	if line, e := script.Op(o); line != "" || e != api.ErrForm {
		t.Fatalf("Op(%v) = %q, %d", o, line, e)
	}
	drain := api.Op{Kind: api.OpDrain}
	for _, ops := range [][]api.Op{{o}, {o, drain}, {drain, o}, {drain, o, drain}} {
		noText(t, api.Script{Ops: ops})
	}
}

// noText holds that a script isn't in form.
func noText(t *testing.T, s api.Script) {
	t.Helper()
	if text, e := script.Text(s); text != "" || e != api.ErrForm {
		t.Fatalf("Text(%v) = %q, %d", s, text, e)
	}
}

// goes holds that a script goes there and back (P25.2).
func goes(t *testing.T, s api.Script) {
	t.Helper()
	want := wantText(s)
	text, e := script.Text(s)
	if text != want || e != api.OK {
		t.Fatalf("Text(%v) = %q, %d, not %q", s, text, e, want)
	}
	back, line, e := script.Parse(text)
	if line != 0 || e != api.OK || !wantSame(back, s) || !script.Same(back, s) {
		t.Fatalf("Parse(%q) = %v, %d, %d, not %v", text, back, line, e, s)
	}
	if wrong := wantWrong(text); wrong != 0 {
		t.Fatalf("line %d of %q is no line", wrong, text)
	}
}

// parses holds what Parse answers to a text to the patterns; that what is taken goes back (P25.2); that what stands ahead of a line that is told is a script (P25.3).
func parses(t *testing.T, text string) int {
	t.Helper()
	s, line, e := script.Parse(text)
	want := wantWrong(text)
	if line != want || (e == api.OK) != (want == 0) || e != api.OK && e != api.ErrSyntax {
		t.Fatalf("Parse(%q) = %v, %d, %d, not %d", text, s, line, e, want)
	}
	if e == api.OK {
		back, e := script.Text(s)
		if back != text || e != api.OK || wantText(s) != text {
			t.Fatalf("Text(%v) = %q, %d, not %q", s, back, e, text)
		}
		return 0
	}
	if !wantSame(s, api.Script{}) {
		t.Fatalf("beside line %d there is %v", line, s)
	}
	if line > 1 {
		ahead := strings.Join(strings.SplitAfter(text, "\n")[:line-1], "")
		s, wrong, e := script.Parse(ahead)
		if back, be := script.Text(s); wrong != 0 || e != api.OK || back != ahead || be != api.OK {
			t.Fatalf("ahead of line %d: Parse(%q) = %d, %d; Text = %q, %d", line, ahead, wrong, e, back, be)
		}
	}
	return line
}

// wrong holds that a text is refused, and for which line.
func wrong(t *testing.T, text string, line int) {
	t.Helper()
	if got := parses(t, text); got != line {
		t.Fatalf("Parse(%q) tells line %d, not %d", text, got, line)
	}
}

// wantSame tells, by other means than Same, whether two scripts are the same.
func wantSame(a, b api.Script) bool {
	if a.Config != b.Config || len(a.Attrs) != len(b.Attrs) || len(a.Ops) != len(b.Ops) {
		return false
	}
	for i := range a.Attrs {
		if a.Attrs[i] != b.Attrs[i] {
			return false
		}
	}
	for i := range a.Ops {
		// %#v tells all fields apart, but an empty list and one that is nil.
		x, y := a.Ops[i], b.Ops[i]
		for _, o := range []*api.Op{&x, &y} {
			if len(o.Nums) == 0 {
				o.Nums = nil
			}
			if len(o.Call.Event) == 0 {
				o.Call.Event = nil
			}
		}
		if fmt.Sprintf("%#v", x) != fmt.Sprintf("%#v", y) {
			return false
		}
	}
	return true
}
