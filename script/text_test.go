package script_test

import (
	"math/rand/v2"
	"slices"
	"strconv"
	"strings"
	"testing"

	"trommel/api"
	"trommel/script"
)

// example is the chapter's, and the script that it is.
const example = "config 9 9 9 9 2 1 1 2\nattr a int\ncall 0 sub \"a {1}\"\ncall 1 match a=1\nstep 0 -1\ndrain\ncrash\n"

func exampleScript() api.Script {
	return api.Script{
		Config: api.Config{Limits: api.Limits{Depth: 9, Conj: 9, Subs: 9, Total: 9}, Shards: 2, Queue: 1, Window: 1, Users: 2},
		Attrs:  []api.Attr{intAttr("a")},
		Ops:    []api.Op{call(0, sub("a {1}")), call(1, match(number("a", 1))), nums(api.OpStep, 0, -1), {Kind: api.OpDrain}, nums(api.OpCrash)},
	}
}

// P25.1, P25.2: the chapter's example.
func TestExample(t *testing.T) {
	if text, e := script.Text(exampleScript()); text != example || e != api.OK {
		t.Errorf("Text = %q, %d", text, e)
	}
	s, line, e := script.Parse(example)
	if !wantSame(s, exampleScript()) || line != 0 || e != api.OK || len(s.Ops) != 5 {
		t.Errorf("Parse = %v, %d, %d", s, line, e)
	}
	goes(t, exampleScript())
}

// P25.1: the numbers of a config are any ints, each in its place; they needn't be in their ranges.
func TestConfigs(t *testing.T) {
	goes(t, api.Script{})
	if text, e := script.Text(api.Script{}); text != "config 0 0 0 0 0 0 0 0\n" || e != api.OK {
		t.Errorf("Text = %q, %d", text, e)
	}
	c := api.Config{Limits: api.Limits{Depth: 1, Conj: 2, Subs: 3, Total: 4}, Shards: 5, Queue: 6, Window: 7, Users: 8}
	if text, e := script.Text(api.Script{Config: c}); text != "config 1 2 3 4 5 6 7 8\n" || e != api.OK {
		t.Errorf("Text = %q, %d", text, e)
	}
	for i := range 8 {
		for _, n := range edges() {
			c := c
			*[]*int{&c.Depth, &c.Conj, &c.Subs, &c.Total, &c.Shards, &c.Queue, &c.Window, &c.Users}[i] = n
			goes(t, api.Script{Config: c})
		}
	}
}

// P25.1: attributes in the script's order, as many as MaxAttrs.
func TestAttrs(t *testing.T) {
	goes(t, api.Script{Attrs: []api.Attr{intAttr("b"), wordAttr("a"), intAttr("c")}})
	goes(t, api.Script{Attrs: []api.Attr{wordAttr("int"), intAttr("word"), intAttr("attr"), wordAttr("config"), wordAttr(longName), intAttr("a_9"), intAttr("a")}, Ops: opsInForm()})
	var many []api.Attr
	for i := range api.MaxAttrs {
		many = append(many, api.Attr{Name: "n" + strconv.Itoa(i), Kind: 1 + i%2})
	}
	goes(t, api.Script{Attrs: many})
	goes(t, api.Script{Attrs: many, Ops: opsInForm()})
	noText(t, api.Script{Attrs: append(slices.Clone(many), intAttr("z"))})
}

// P25.1: attributes that schema.New doesn't take, wherever they stand.
func TestBadAttrs(t *testing.T) {
	bad := []api.Attr{intAttr("a"), wordAttr("a"), {Name: "x"}, {Name: "x", Kind: 3}, {Name: "x", Kind: -1}, {Name: "x", Kind: 1<<32 + 1}, {}}
	for _, name := range badNames() {
		bad = append(bad, intAttr(name), wordAttr(name))
	}
	for _, a := range bad {
		for place := range 3 {
			attrs := slices.Insert([]api.Attr{intAttr("a"), wordAttr("b")}, place, a)
			noText(t, api.Script{Attrs: attrs})
			noText(t, api.Script{Attrs: attrs, Ops: opsInForm()})
		}
	}
}

// P25.1: MaxOps ops, and one more.
func TestMaxOps(t *testing.T) {
	ops := make([]api.Op, api.MaxOps+1)
	for i := range ops {
		ops[i] = opsInForm()[i%len(opsInForm())]
	}
	goes(t, api.Script{Ops: ops[:api.MaxOps-1]})
	goes(t, api.Script{Attrs: []api.Attr{intAttr("a")}, Ops: ops[:api.MaxOps]})
	noText(t, api.Script{Attrs: []api.Attr{intAttr("a")}, Ops: ops})
	noText(t, api.Script{Ops: slices.Repeat(ops, 3)})
	// The one op that isn't in form is found at both ends.
	for _, place := range []int{0, api.MaxOps - 1} {
		spoilt := slices.Clone(ops[:api.MaxOps])
		spoilt[place] = nums(api.OpStep)
		noText(t, api.Script{Ops: spoilt})
	}
}

// P25.1: each line has a line end behind it, and no line has another one.
func TestLines(t *testing.T) {
	for _, text := range texts() {
		if len(text) > api.MaxText {
			continue
		}
		s := api.Script{Attrs: []api.Attr{intAttr("a")}, Ops: []api.Op{call(0, sub(text)), call(0, replace(1, text)), call(0, match(word("c", text[:min(len(text), api.MaxWord)])))}}
		got, e := script.Text(s)
		if e != api.OK || strings.Count(got, "\n") != 5 || !strings.HasSuffix(got, "\n") {
			t.Fatalf("Text(%v) = %q, %d", s, got, e)
		}
		goes(t, s)
	}
}

// P25.2: there and back, by chance; the texts of two scripts that aren't the same aren't.
func TestThereAndBack(t *testing.T) {
	chance := rand.New(rand.NewPCG(25, 2))
	seen := map[string]api.Script{}
	for range 3000 {
		s := someScript(chance)
		goes(t, s)
		text, _ := script.Text(s)
		if other, ok := seen[text]; ok && !wantSame(other, s) {
			t.Fatalf("%v and %v are both %q", other, s, text)
		}
		seen[text] = s
	}
}
