package schema_test

import (
	"fmt"
	"math"
	"slices"
	"strings"
	"testing"

	"trommel/api"
	"trommel/schema"
)

func intAttr(name string) api.Attr { return api.Attr{Name: name, Kind: api.KindInt} }

func wordAttr(name string) api.Attr { return api.Attr{Name: name, Kind: api.KindWord} }

func intPair(name string, n int) api.Pair {
	return api.Pair{Name: name, Value: api.Value{Kind: api.KindInt, Int: n}}
}

func wordPair(name, w string) api.Pair {
	return api.Pair{Name: name, Value: api.Value{Kind: api.KindWord, Word: w}}
}

func mustNew(t *testing.T, attrs ...api.Attr) *schema.Schema {
	t.Helper()
	s, e := schema.New(attrs...)
	if e != api.OK || s == nil {
		t.Fatalf("New(%v): %d", attrs, e)
	}
	return s
}

func refuseNew(t *testing.T, want api.Errno, attrs ...api.Attr) {
	t.Helper()
	if s, e := schema.New(attrs...); e != want || s != nil {
		t.Errorf("New(%v) = %v, %d, not %d", attrs, s, e, want)
	}
}

// many are n attributes of rising names.
func many(n int) []api.Attr {
	var out []api.Attr
	for i := range n {
		out = append(out, api.Attr{Name: fmt.Sprintf("a%03d", i), Kind: 1 + i%2})
	}
	return out
}

// orders calls f with the items in all their orders.
func orders[T any](items []T, f func([]T)) {
	var put func(int)
	list := slices.Clone(items)
	put = func(at int) {
		if at == len(list) {
			f(slices.Clone(list))
			return
		}
		for i := at; i < len(list); i++ {
			list[at], list[i] = list[i], list[at]
			put(at + 1)
			list[at], list[i] = list[i], list[at]
		}
	}
	put(0)
}

// P2.1: Name.
func TestName(t *testing.T) {
	for _, s := range []string{"a", "z", "a0", "a9", "a_", "a_b_0", "zz", "m", strings.Repeat("a", 32), "a" + strings.Repeat("_", 31), "a" + strings.Repeat("9", 31)} {
		if !schema.Name(s) {
			t.Errorf("Name(%q) is false", s)
		}
	}
	for _, s := range []string{"", "A", "9", "0", "_", "_a", "9a", "aB", "a b", "a ", " a", "a-", "a.b", "ä", "aä", "a\x00", "\x00", "a\xff", "`", "{", "a`", "a{", "a/", "a:", strings.Repeat("a", 33), strings.Repeat("a", 100000)} {
		if schema.Name(s) {
			t.Errorf("Name(%q) is true", s)
		}
	}
	for c := range 256 {
		first := c >= 'a' && c <= 'z'
		later := first || c >= '0' && c <= '9' || c == '_'
		b := string([]byte{byte(c)})
		if schema.Name(b) != first || schema.Name("a"+b) != later || schema.Name("a"+b+"a") != later || schema.Name(strings.Repeat("a", 31)+b) != later {
			t.Errorf("Name of the byte %#x", c)
		}
	}
}

// P2.1: New's errors, ErrRange ahead of ErrForm.
func TestNewRefuses(t *testing.T) {
	refuseNew(t, api.ErrForm, intAttr("a"), intAttr("a"))
	refuseNew(t, api.ErrForm, intAttr("a"), wordAttr("a"))
	refuseNew(t, api.ErrForm, intAttr("a"), intAttr("b"), intAttr("c"), wordAttr("a"))
	refuseNew(t, api.ErrForm, intAttr("A"))
	refuseNew(t, api.ErrForm, intAttr("9"))
	refuseNew(t, api.ErrForm, intAttr(""))
	refuseNew(t, api.ErrForm, intAttr(strings.Repeat("a", 33)))
	refuseNew(t, api.ErrForm, intAttr("a"), wordAttr("b"), intAttr("c d"))
	for _, kind := range []int{0, 3, -1, math.MinInt, math.MaxInt} {
		refuseNew(t, api.ErrForm, api.Attr{Name: "a", Kind: kind})
		refuseNew(t, api.ErrForm, intAttr("b"), api.Attr{Name: "a", Kind: kind})
	}
	refuseNew(t, api.ErrForm, make([]api.Attr, 64)...)
	refuseNew(t, api.ErrForm, append(many(63), intAttr("a000"))...)
	refuseNew(t, api.ErrRange, many(65)...)
	refuseNew(t, api.ErrRange, make([]api.Attr, 65)...)
	refuseNew(t, api.ErrRange, append(many(64), intAttr("a000"))...)
	refuseNew(t, api.ErrRange, make([]api.Attr, 1000)...)
}

// P2.1, P2.3: what a schema tells, whatever the order of its attributes.
func TestSchema(t *testing.T) {
	want := []api.Attr{wordAttr("a"), intAttr("a_"), wordAttr("ab"), intAttr("b"), intAttr(strings.Repeat("z", 32))}
	slices.SortFunc(want, func(a, b api.Attr) int { return strings.Compare(a.Name, b.Name) })
	orders(want, func(attrs []api.Attr) {
		s := mustNew(t, attrs...)
		if s.Len() != 5 || !slices.Equal(s.Attrs(), want) {
			t.Fatalf("New(%v): %v", attrs, s.Attrs())
		}
		for _, a := range want {
			if s.Kind(a.Name) != a.Kind {
				t.Fatalf("Kind(%q) = %d", a.Name, s.Kind(a.Name))
			}
		}
		for _, name := range []string{"", "c", "A", "aa", "abc", "b ", " b", "zz", strings.Repeat("z", 31), strings.Repeat("z", 33)} {
			if s.Kind(name) != 0 {
				t.Fatalf("Kind(%q) = %d", name, s.Kind(name))
			}
		}
	})
}

// P2.1: no attributes, and as many as are allowed.
func TestSizesOfSchemas(t *testing.T) {
	for _, s := range []*schema.Schema{mustNew(t), mustNew(t, []api.Attr{}...)} {
		if s.Len() != 0 || len(s.Attrs()) != 0 || s.Kind("a") != 0 || s.Kind("") != 0 {
			t.Error("a schema without attributes has some")
		}
		if l, e := s.Event(); e != api.OK || len(l) != 0 {
			t.Errorf("Event() = %v, %d", l, e)
		}
		if l, e := s.Event(intPair("a", 1)); e != api.ErrKind || len(l) != 0 {
			t.Errorf("Event(a=1) = %v, %d", l, e)
		}
	}
	want := many(64)
	back := slices.Clone(want)
	slices.Reverse(back)
	s := mustNew(t, back...)
	if s.Len() != 64 || !slices.Equal(s.Attrs(), want) {
		t.Errorf("64 attributes: %v", s.Attrs())
	}
	for _, a := range want {
		if s.Kind(a.Name) != a.Kind {
			t.Errorf("Kind(%q) = %d", a.Name, s.Kind(a.Name))
		}
	}
}

// P2.1: Event's errors.
func TestEventRefuses(t *testing.T) {
	s := mustNew(t, intAttr("b"), wordAttr("a"), intAttr("d"))
	for _, pairs := range [][]api.Pair{
		{wordPair("b", "x")}, {wordPair("b", "")}, {intPair("a", 0)}, {intPair("c", 1)}, {wordPair("c", "")},
		{intPair("", 1)}, {intPair("B", 1)}, {{}}, {{Name: "a"}}, {{Name: "b"}},
		{intPair("b", 1), intPair("b", 1)}, {intPair("b", 1), intPair("b", 2)}, {wordPair("a", "x"), intPair("b", 1), wordPair("a", "y")},
		{intPair("d", 1), wordPair("a", ""), intPair("b", 2), intPair("d", 1)},
		{intPair("b", api.Most+1)}, {intPair("b", api.Least-1)}, {intPair("b", math.MaxInt)},
		{wordPair("a", strings.Repeat("w", 65))}, {wordPair("a", "x"), intPair("b", 1), intPair("c", 1)},
		{{Name: "b", Value: api.Value{Kind: api.KindInt, Int: 1, Word: "x"}}},
		{{Name: "a", Value: api.Value{Kind: api.KindWord, Int: 1, Word: "x"}}},
		{{Name: "b", Value: api.Value{Kind: 3, Int: 1}}}, {{Name: "c", Value: api.Value{}}},
		{wordPair("a", "x"), wordPair("b", "x")}, {wordPair("b", "x"), wordPair("a", "x")},
		make([]api.Pair, 1000),
	} {
		if l, e := s.Event(pairs...); e != api.ErrKind || len(l) != 0 {
			t.Errorf("Event(%v) = %v, %d", pairs, l, e)
		}
	}
}

// P2.1: Event, at the edges of values.
func TestEvent(t *testing.T) {
	s := mustNew(t, intAttr("b"), wordAttr("a"))
	for _, pairs := range [][]api.Pair{
		nil, {}, {intPair("b", api.Least)}, {intPair("b", api.Most)}, {intPair("b", 0)},
		{wordPair("a", "")}, {wordPair("a", strings.Repeat("w", 64))}, {wordPair("a", "\x00\xff")},
		{wordPair("a", "x"), intPair("b", 5)},
	} {
		if l, e := s.Event(pairs...); e != api.OK || !slices.Equal(l, pairs) {
			t.Errorf("Event(%v) = %v, %d", pairs, l, e)
		}
	}
	l, e := s.Event(intPair("b", 5), wordPair("a", "x"))
	if e != api.OK || !slices.Equal(l, []api.Pair{wordPair("a", "x"), intPair("b", 5)}) {
		t.Errorf("Event(b=5, a=\"x\") = %v, %d", l, e)
	}
}

// P2.2: an event rises, has its pairs alone, is the same from any order, and is one still without one of them.
func TestEventRises(t *testing.T) {
	s := mustNew(t, wordAttr("a"), intAttr("a_"), wordAttr("ab"), intAttr("b"), intAttr("a0"), wordAttr("z"))
	want := []api.Pair{wordPair("a", "z"), intPair("a0", -1), intPair("a_", 9), wordPair("ab", ""), intPair("b", api.Least)}
	orders(want, func(pairs []api.Pair) {
		event, e := s.Event(pairs...)
		if e != api.OK || !slices.Equal(event, want) {
			t.Fatalf("Event(%v) = %v, %d", pairs, event, e)
		}
	})
	for left := range want {
		fewer := slices.Delete(slices.Clone(want), left, left+1)
		event, e := s.Event(fewer...)
		if e != api.OK || !slices.Equal(event, fewer) {
			t.Errorf("Event(%v) = %v, %d", fewer, event, e)
		}
	}
	full := mustNew(t, many(64)...)
	var pairs []api.Pair
	for i, a := range many(64) {
		pairs = append(pairs, api.Pair{Name: a.Name, Value: api.Value{Kind: a.Kind, Int: i * (2 - a.Kind)}})
	}
	turned := slices.Clone(pairs)
	slices.Reverse(turned)
	if event, e := full.Event(turned...); e != api.OK || !slices.Equal(event, pairs) {
		t.Errorf("64 pairs: %v, %d", event, e)
	}
}

// P2.1: Get, of any list of pairs.
func TestGet(t *testing.T) {
	odd := api.Pair{Name: "Not a name", Value: api.Value{Kind: 7, Int: -3, Word: "w"}}
	event := []api.Pair{intPair("b", 1), intPair("b", 2), odd, wordPair("a", "x"), {Name: ""}, wordPair("b", "y")}
	for name, want := range map[string]api.Value{"b": intPair("b", 1).Value, "a": wordPair("a", "x").Value, odd.Name: odd.Value, "": {}} {
		if v, ok := schema.Get(event, name); !ok || v != want {
			t.Errorf("Get(%q) = %v, %t", name, v, ok)
		}
	}
	for _, name := range []string{"c", "B", "a ", "bb"} {
		if v, ok := schema.Get(event, name); ok || v != (api.Value{}) {
			t.Errorf("Get(%q) = %v, %t", name, v, ok)
		}
	}
	for _, none := range [][]api.Pair{nil, {}} {
		if v, ok := schema.Get(none, ""); ok || v != (api.Value{}) {
			t.Errorf("Get of no pairs = %v, %t", v, ok)
		}
	}
}

// Rule 5: the attributes that New is handed stay as they were and aren't kept.
func TestNewLeavesAttributes(t *testing.T) {
	room := []api.Attr{intAttr("c"), wordAttr("b"), intAttr("a"), intAttr("spare"), intAttr("b")}
	before := slices.Clone(room)
	s := mustNew(t, room[:3]...)
	if !slices.Equal(room, before) {
		t.Errorf("New changed %v", room)
	}
	want := s.Attrs()
	clear(room)
	if s.Len() != 3 || !slices.Equal(s.Attrs(), want) || s.Kind("b") != api.KindWord {
		t.Errorf("New kept its list: %v", s.Attrs())
	}
}

// Rule 5: what Attrs answers is new memory each time.
func TestAttrsAreNew(t *testing.T) {
	want := []api.Attr{intAttr("a"), wordAttr("b"), intAttr("c")}
	s := mustNew(t, want...)
	first, second := s.Attrs(), s.Attrs()
	_ = append(first, wordAttr("x"))
	clear(first)
	if other := append(s.Attrs(), wordAttr("y")); !slices.Equal(other[:3], want) || other[3] != wordAttr("y") {
		t.Errorf("Attrs shares memory: %v", other)
	}
	if !slices.Equal(second, want) || !slices.Equal(s.Attrs(), want) || s.Kind("a") != api.KindInt || s.Len() != 3 {
		t.Errorf("Attrs shares memory: %v, %v", second, s.Attrs())
	}
	if l, e := s.Event(wordPair("b", "w")); e != api.OK || len(l) != 1 {
		t.Errorf("Event behind a written list: %v, %d", l, e)
	}
}

// Rule 5: the pairs that Event is handed stay as they were, and what it answers is new memory each time.
func TestEventIsNew(t *testing.T) {
	s := mustNew(t, intAttr("a"), wordAttr("b"), intAttr("c"))
	for _, room := range [][]api.Pair{
		{intPair("c", 3), wordPair("b", "x"), intPair("a", 1), intPair("a", 99), wordPair("z", "")},
		{intPair("a", 1), wordPair("b", "x"), intPair("c", 3), intPair("a", 99), wordPair("z", "")},
	} {
		before := slices.Clone(room)
		want := []api.Pair{intPair("a", 1), wordPair("b", "x"), intPair("c", 3)}
		first, _ := s.Event(room[:3]...)
		second, _ := s.Event(room[:3]...)
		_ = append(first, intPair("a", 7))
		clear(first)
		if !slices.Equal(room, before) || !slices.Equal(second, want) {
			t.Errorf("Event shares memory: %v, %v", room, second)
		}
		clear(room)
		if !slices.Equal(second, want) {
			t.Errorf("Event answers what it was handed: %v", second)
		}
	}
	refused := []api.Pair{intPair("c", 3), wordPair("b", "x"), intPair("a", 1), intPair("a", 2)}
	before := slices.Clone(refused)
	if _, e := s.Event(refused...); e != api.ErrKind || !slices.Equal(refused, before) {
		t.Errorf("Event changed what it refused: %v, %d", refused, e)
	}
}

// Rule 5: Get leaves its list, also that of an event out of order.
func TestGetLeavesItsList(t *testing.T) {
	event := []api.Pair{intPair("c", 3), intPair("a", 1), intPair("b", 2)}
	before := slices.Clone(event)
	if v, ok := schema.Get(event, "b"); !ok || v.Int != 2 || !slices.Equal(event, before) {
		t.Errorf("Get = %v, %t, and %v", v, ok, event)
	}
}

// Rules 4 and 6: a schema hangs on its own attributes alone, and nothing that it is asked changes it.
func TestSchemasStandAlone(t *testing.T) {
	one := mustNew(t, intAttr("a"), intAttr("b"))
	two := mustNew(t, wordAttr("a"))
	refuseNew(t, api.ErrForm, wordAttr("b"), wordAttr("b"))
	for range 3 {
		if _, e := one.Event(wordPair("a", "")); e != api.ErrKind {
			t.Errorf("one: %d", e)
		}
		if _, e := two.Event(wordPair("a", "")); e != api.OK {
			t.Errorf("two: %d", e)
		}
		if one.Kind("a") != api.KindInt || two.Kind("a") != api.KindWord || two.Kind("b") != 0 || one.Len() != 2 || two.Len() != 1 {
			t.Error("schemas meet")
		}
	}
}
