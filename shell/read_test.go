package shell_test

import (
	"math/rand/v2"
	"regexp"
	"slices"
	"strconv"
	"strings"
	"testing"

	"trommel/api"
	"trommel/shell"
)

// The forms of all lines, as the chapter tells them.
var (
	opForm       = regexp.MustCompile(`^([1-9][0-9]*) (ok|refused [1-9][0-9]*|moved (0|[1-9][0-9]*))$`)
	userForm     = regexp.MustCompile(`^user ([0-7]) (refused [1-9][0-9]*|number [1-9][0-9]*|meets( [1-9][0-9]*)+|ok)$`)
	orderForm    = regexp.MustCompile(`^order( [0-7])*$`)
	registryForm = regexp.MustCompile(`^registry (0|[1-9][0-9]*) (0|[1-9][0-9]*) [1-9][0-9]*$`)
)

// system is what one has told of itself.
type system struct {
	received [api.MaxUsers][]string
	order    []int
	last     string
}

// reading is what was told of a script: of each op what became of it, and of each system.
type reading struct {
	ops     []string
	systems []system // one for each crash, and the last one
}

// reader goes over what was told, and holds that each line is where it may be.
type reader struct {
	t     *testing.T
	lines []string
}

func (r *reader) next() string {
	r.t.Helper()
	if len(r.lines) == 0 {
		r.t.Fatal("a line is missing")
	}
	line := r.lines[0]
	r.lines = r.lines[1:]
	return line
}

// op reads what became of the op of a number.
func (r *reader) op(number int) string {
	r.t.Helper()
	line := r.next()
	m := opForm.FindStringSubmatch(line)
	if m == nil || m[1] != strconv.Itoa(number) {
		r.t.Fatalf("%q is told of the op %d", line, number)
	}
	return m[2]
}

// system reads what one tells of itself.
func (r *reader) system() system {
	r.t.Helper()
	var s system
	least := 0
	for line := r.next(); ; line = r.next() {
		m := userForm.FindStringSubmatch(line)
		if m == nil {
			if !orderForm.MatchString(line) {
				r.t.Fatalf("%q is told by a system", line)
			}
			s.order = numbers(line)
			break
		}
		who, _ := strconv.Atoi(m[1])
		if who < least {
			r.t.Fatalf("%q behind the user %d", line, least)
		}
		least = who
		s.received[who] = append(s.received[who], m[2])
	}
	s.last = r.next()
	if s.last != "down" && !registryForm.MatchString(s.last) {
		r.t.Fatalf("%q is told last by a system", s.last)
	}
	return s
}

// numbers are those of a line.
func numbers(line string) []int {
	var list []int
	for _, word := range strings.Fields(line)[1:] {
		n, _ := strconv.Atoi(word)
		list = append(list, n)
	}
	return list
}

// read reads what is told of a script, to the end.
func read(t *testing.T, s api.Script, told string) reading {
	t.Helper()
	whole, ended := strings.CutSuffix(told, "\n")
	if !ended {
		t.Fatalf("there is no line end behind %q", told)
	}
	r := &reader{t, strings.Split(whole, "\n")}
	var got reading
	for i, o := range s.Ops {
		if o.Kind == api.OpCrash {
			got.systems = append(got.systems, r.system())
		}
		got.ops = append(got.ops, r.op(i+1))
	}
	got.systems = append(got.systems, r.system())
	if len(r.lines) > 0 {
		t.Fatalf("%q stands behind the end", r.lines)
	}
	return got
}

// may tells whether an op may be told so.
func may(o api.Op, told string) bool {
	switch o.Kind {
	case api.OpCall:
		return slices.Contains([]string{"ok", "refused 2", "refused 16", "refused 40"}, told)
	case api.OpStep:
		count, moved := strings.CutPrefix(told, "moved ")
		n, _ := strconv.Atoi(count)
		return moved && n <= len(o.Nums)
	case api.OpDrain:
		return strings.HasPrefix(told, "moved ")
	case api.OpStop, api.OpCrash:
		return told == "ok"
	}
	return told == "ok" || told == "refused 40"
}

// P26.3: a line for each op, with its number, in their order; ahead of a crash's, and at the end, what the system tells of itself; nothing else.
func TestLines(t *testing.T) {
	chance := rand.New(rand.NewPCG(26, 1))
	seen := map[string]int{}
	for range 500 {
		s := someScript(chance, chance.IntN(120))
		r := read(t, s, shell.Run(textOf(t, s)))
		for i, told := range r.ops {
			if !may(s.Ops[i], told) {
				t.Fatalf("%q is told of %v", told, s.Ops[i])
			}
			word, _, _ := strings.Cut(told, " ")
			seen[strconv.Itoa(s.Ops[i].Kind)+" "+word]++
		}
	}
	for _, what := range []string{"1 ok", "1 refused", "2 moved", "3 moved", "4 ok", "5 ok", "5 refused", "6 ok", "7 ok", "7 refused"} {
		if seen[what] < 50 {
			t.Errorf("%s: seen %d times only", what, seen[what])
		}
	}
}

// P26.3: how many lines there are, of as many ops as there may be: of each kind by itself.
func TestLinesOfMany(t *testing.T) {
	for op, of := range map[string]int{"drain": 1, "step 0 0": 1, "stop": 1, "arm 0 0": 1, "tidy": 1, "call 0 match": 1, "call 7 match": 1, "crash": 3} {
		for _, count := range []int{0, 1, 2, 9, 10, 100, api.MaxOps} {
			told := shell.Run(plain + strings.Repeat(op+"\n", count))
			if got := strings.Count(told, "\n"); got != of*count+2 || !strings.HasSuffix(told, "order\nregistry 0 0 1\n") {
				t.Fatalf("%d times %s: %d lines", count, op, got)
			}
		}
	}
}

// P26.1: texts that differ by little from a script's: they tell one line, or all of them.
func TestSpoiltTexts(t *testing.T) {
	refused, played := 0, 0
	base := plain + lines(sub, "call 1 match a=1 c=\"x\"", "step 0 1", "arm 1 7", "drain", "crash 3 -1", "tidy", "stop")
	for i := range base {
		for _, text := range []string{base[:i], base[i:], base[:i] + base[i+1:], base[:i] + "1" + base[i:], base[:i] + "\n" + base[i:], base[:i] + " " + base[i+1:], base[:i] + "\x00" + base[i+1:]} {
			told := shell.Run(text)
			switch count := strings.Count(told, "\n"); {
			case strings.HasPrefix(told, "refused line ") && count == 1:
				refused++
			case strings.HasPrefix(told, "refused") || count < 2:
				t.Fatalf("of %q is told %q", text, told)
			default:
				played++
			}
		}
	}
	if refused < 500 || played < 40 {
		t.Errorf("%d were refused, %d played", refused, played)
	}
}
