package live_test

import (
	"maps"
	"math"
	"math/rand/v2"
	"runtime"
	"slices"
	"strconv"
	"testing"

	"trommel/api"
	"trommel/book"
	"trommel/live"
	"trommel/schema"
)

func between(lo, n, hi int) int {
	if n < lo {
		return lo
	}
	if n > hi {
		return hi
	}
	return n
}

// wantServe is what a book answers.
func wantServe(c api.Config, s *schema.Schema, calls []api.Call) []api.Answer {
	l := api.Limits{Depth: between(1, c.Depth, 32), Conj: between(1, c.Conj, 64), Subs: between(0, c.Subs, 1024), Total: between(0, c.Total, 4096)}
	return book.New(l, s).Do(calls...)
}

// serves holds that Serve answers so, and that a book does.
func serves(t *testing.T, c api.Config, s *schema.Schema, calls []api.Call, want ...api.Answer) {
	t.Helper()
	if model := wantServe(c, s, calls); !sameAnswers(model, want) {
		t.Fatalf("a book answers %v, not %v", model, want)
	}
	if got := live.Serve(c, s, calls...); !sameAnswers(got, want) {
		t.Fatalf("Serve(%v, %v) = %v, not %v", c, calls, got, want)
	}
}

// P24.1: the chapter's example, with every config.
func TestServeExample(t *testing.T) {
	s := attributes(t)
	calls := []api.Call{sub("a {1}"), match(number("a", 1)), unsub(1), match(number("a", 1))}
	for _, c := range configs(most, true) {
		serves(t, c, s, calls, given(1), met(1), done, met())
	}
}

// P24.1: no calls, no answers; each call has one.
func TestServeNoCalls(t *testing.T) {
	s := attributes(t)
	for _, c := range append(configs(most, true), api.Config{}) {
		if got := live.Serve(c, s); len(got) != 0 {
			t.Fatalf("Serve() = %v", got)
		}
		if got := live.Serve(c, s, []api.Call{}...); len(got) != 0 {
			t.Fatalf("Serve of an empty list = %v", got)
		}
	}
	for count := range 40 {
		for _, c := range configs(most, false) {
			if got := live.Serve(c, s, slices.Repeat([]api.Call{match()}, count)...); !sameAnswers(got, make([]api.Answer, count)) {
				t.Fatalf("%d matches of nothing: %v", count, got)
			}
		}
	}
}

// P24.1: each Kind, answered OK: the document's examples 1, 4 and 5, and a subscription whose conjunctions are several shards'.
func TestServeKinds(t *testing.T) {
	s := attributes(t)
	one, two := match(number("a", 1)), match(number("a", 2))
	for _, c := range configs(most, false) {
		serves(t, c, s, []api.Call{sub("a {1}"), sub("!a {1}"), one, replace(2, "a [0, 9]"), one, unsub(1), one, sub("a {2}"), two, match()},
			given(1), given(2), met(1), done, met(1, 2), done, met(2), given(3), met(2, 3), met())
		serves(t, c, s, []api.Call{sub(`a {1, 2} & !c "x"*`), one, match(number("a", 2), word("c", "y")), match(word("c", "xy"), number("a", 1)), match(word("c", "y"))},
			given(1), met(1), met(1), met(), met())
		serves(t, c, s, []api.Call{sub("a {0} | a {1} | a {2} | a {3} | a {4} | a {5} | a {6} | a {7} | a {8} | a {9}"), one, match(number("a", 8)), match(number("a", 10)), replace(1, "a {10} | b {1}"), one, match(number("a", 10), number("b", 1)), match(number("b", 1)), unsub(1), match(number("b", 1))},
			given(1), met(1), met(1), met(), done, met(), met(1), met(1), done, met())
		serves(t, c, s, []api.Call{match(), sub("!b {7}"), match(), sub("a {1} & a {2}"), sub("a {1} | !a {1}"), match(), match(number("b", 7))},
			met(), given(1), met(1), given(2), given(3), met(1, 3), met(3))
	}
}

// P24.1, P5: each refusal, and what stands behind it is answered as if it hadn't been.
func TestServeRefusals(t *testing.T) {
	s := attributes(t)
	one := match(number("a", 1))
	for _, c := range configs(narrow, false) {
		serves(t, c, s, []api.Call{
			sub(""), sub("a {"), sub("a"), sub(deep(4)), sub("z {1}"), sub(`a {"x"}`), sub("c {1}"), sub(wide(5)), one,
			sub(wide(3)), one, sub("b {1} | a {3} | b {2}"), sub("b {1} | a {3}"), sub("b {9}"), one,
			replace(9, "a {"), replace(9, deep(4)), replace(9, "z {1}"), replace(9, wide(5)), replace(9, "a {1}"), replace(0, "a {1}"), replace(3, "a {1}"), one,
			replace(2, "a {"), replace(2, deep(4)), replace(2, "z {1}"), replace(2, wide(5)), replace(2, wide(3)), one, replace(2, "!b {8}"), one,
			unsub(0), unsub(3), unsub(-1), unsub(math.MaxInt), unsub(2), unsub(2), one, replace(2, "a {1}"), sub("a {1}"), one,
		},
			code(api.ErrSyntax), code(api.ErrSyntax), code(api.ErrSyntax), code(api.ErrTooDeep), code(api.ErrKind), code(api.ErrKind), code(api.ErrKind), code(api.ErrTooWide), met(),
			given(1), met(1), code(api.ErrTooMany), given(2), code(api.ErrTooMany), met(1),
			code(api.ErrSyntax), code(api.ErrTooDeep), code(api.ErrKind), code(api.ErrTooWide), code(api.ErrNoSub), code(api.ErrNoSub), code(api.ErrNoSub), met(1),
			code(api.ErrSyntax), code(api.ErrTooDeep), code(api.ErrKind), code(api.ErrTooWide), code(api.ErrTooMany), met(1), done, met(1, 2),
			code(api.ErrNoSub), code(api.ErrNoSub), code(api.ErrNoSub), code(api.ErrNoSub), done, code(api.ErrNoSub), met(1), code(api.ErrNoSub), given(3), met(1, 3))
		for _, event := range badEvents() {
			serves(t, c, s, []api.Call{sub("!a {9}"), match(event...), match()}, given(1), code(api.ErrKind), met(1))
		}
		for _, kind := range otherKinds() {
			x := change(kind, 1, "a {1}")
			x.Event = []api.Pair{number("a", 1)}
			serves(t, c, s, []api.Call{x, sub("a {1}"), x, one, x}, code(api.ErrForm), given(1), code(api.ErrForm), met(1), code(api.ErrForm))
		}
	}
}

// P24.1: what a kind doesn't use plays no part.
func TestServeUnused(t *testing.T) {
	s := attributes(t)
	event := []api.Pair{number("a", 1)}
	for _, c := range configs(most, false) {
		serves(t, c, s, []api.Call{
			{Change: api.Change{Kind: api.Sub, ID: 7, Text: "a {1}"}, Event: badEvents()[0]}, {Change: api.Change{Kind: api.Match, ID: -3, Text: "a {"}, Event: event},
			{Change: api.Change{Kind: api.Replace, ID: 1, Text: "a {1} | b {1}"}, Event: badEvents()[1]}, {Change: api.Change{Kind: api.Match, ID: 1, Text: "a {2}"}, Event: event},
			{Change: api.Change{Kind: api.Unsub, ID: 1, Text: "a {"}, Event: badEvents()[2]}, match(event...),
		}, given(1), met(1), done, met(1), done, met())
	}
}

// P24.1: a schema without attributes, and one that another order made.
func TestServeSchemas(t *testing.T) {
	for _, c := range configs(most, false) {
		serves(t, c, schemaOf(t), []api.Call{sub("a {1}"), match(), match(number("a", 1)), unsub(1)}, code(api.ErrKind), met(), code(api.ErrKind), code(api.ErrNoSub))
		s := schemaOf(t, api.Attr{Name: "d", Kind: api.KindInt}, api.Attr{Name: "a", Kind: api.KindWord})
		serves(t, c, s, []api.Call{sub(`a "x"* & d {1}`), match(number("d", 1), word("a", "xy")), match(word("a", "xy"), number("d", 1)), match(number("a", 1))}, given(1), met(1), met(1), code(api.ErrKind))
	}
}

// P24.1: the limits are those that a config comes to: each number below its range, at both its ends, above it.
func TestServeConfigs(t *testing.T) {
	s := attributes(t)
	var calls []api.Call
	for _, text := range []string{"a {1}", deep(2), deep(31), deep(32), deep(33), wide(2), wide(63), wide(64), wide(65), "(" + wide(8) + ") & (" + wide(8) + ")"} {
		calls = append(calls, sub(text), match(number("a", 1), number("b", 1)))
	}
	// First by much, then by little, up to the most that all may be together.
	calls = append(calls, slices.Repeat([]api.Call{sub(wide(64))}, 64)...)
	calls = append(calls, slices.Repeat([]api.Call{sub("a {1}")}, 64)...)
	calls = append(calls, match(number("b", 1)))
	told := map[string]int{} // how many answers each field has to itself
	for _, f := range []struct {
		name        string
		least, most int
		of          func(*api.Config) *int
	}{
		{"depth", 1, api.MaxDepth, func(c *api.Config) *int { return &c.Depth }}, {"conj", 1, api.MaxConj, func(c *api.Config) *int { return &c.Conj }}, {"subs", 0, api.MaxSubs, func(c *api.Config) *int { return &c.Subs }}, {"total", 0, api.MaxTotal, func(c *api.Config) *int { return &c.Total }},
		{"shards", 1, api.MaxShards, func(c *api.Config) *int { return &c.Shards }}, {"queue", 1, api.MaxQueue, func(c *api.Config) *int { return &c.Queue }}, {"window", 1, api.MaxWindow, func(c *api.Config) *int { return &c.Window }}, {"users", 1, api.MaxUsers, func(c *api.Config) *int { return &c.Users }},
	} {
		seen := map[string]int{}
		for _, n := range []int{math.MinInt, f.least - 1, f.least, f.least + 1, f.most - 1, f.most, f.most + 1, math.MaxInt} {
			c := config(most, 3, 2)
			*f.of(&c) = n
			got, want := live.Serve(c, s, calls...), wantServe(c, s, calls)
			if !sameAnswers(got, want) {
				t.Fatalf("Serve(%v) = %v, not %v", c, got, want)
			}
			seen[keyOf(got)]++
		}
		told[f.name] = len(seen)
	}
	// No call here comes to the most subscriptions.
	if want := map[string]int{"depth": 4, "conj": 4, "subs": 3, "total": 4, "shards": 1, "queue": 1, "window": 1, "users": 1}; !maps.Equal(told, want) {
		t.Errorf("so many answers hang on each field: %v, not %v", told, want)
	}
	for _, n := range []int{math.MinInt, -1, 0, 1, 2, 9, 17, 33, 65, 1025, 4097, math.MaxInt} {
		c := api.Config{Limits: api.Limits{Depth: n, Conj: n, Subs: n, Total: n}, Shards: n, Queue: n, Window: n, Users: n}
		if got, want := live.Serve(c, s, calls...), wantServe(c, s, calls); !sameAnswers(got, want) {
			t.Fatalf("Serve(%v) = %v, not %v", c, got, want)
		}
	}
}

func keyOf(list []api.Answer) string {
	text := ""
	for _, a := range list {
		text += strconv.Itoa(int(a.Code)) + " "
	}
	return text
}

// P24.1: as many subscriptions as there may be, and one more.
func TestServeMost(t *testing.T) {
	s := attributes(t)
	var calls []api.Call
	var want []api.Answer
	for i := range api.MaxSubs {
		calls, want = append(calls, sub("a {"+strconv.Itoa(i)+"}")), append(want, given(i+1))
	}
	calls = append(calls, sub("a {1}"), match(number("a", 1023)), unsub(5), sub("a {1}"), match(number("a", 1)), match(number("a", 4)))
	want = append(want, code(api.ErrTooMany), met(1024), done, given(1025), met(2, 1025), met())
	for _, c := range []api.Config{config(most, 1, 1), config(most, 8, 16), {Limits: api.Limits{Depth: 1, Conj: 1, Subs: math.MaxInt, Total: math.MaxInt}, Shards: 3, Queue: 2}} {
		serves(t, c, s, calls, want...)
	}
}

// P24.1, P24.2, P8: far more calls than the queues have room for, whether the shards have much to do or nothing.
func TestServeManyCalls(t *testing.T) {
	s := attributes(t)
	const count = 3000
	var calls []api.Call
	for i := range count {
		switch i % 5 {
		case 0:
			calls = append(calls, sub(texts()[i/5%len(texts())]))
		case 1:
			calls = append(calls, unsub(i/5-20))
		case 2:
			calls = append(calls, sub("a {"))
		default:
			calls = append(calls, match(events()[i%len(events())]...))
		}
	}
	want := wantServe(config(most, 1, 1), s, calls)
	for _, c := range []api.Config{config(most, 1, 1), config(most, 1, 16), config(most, 2, 1), config(most, 8, 1), config(most, 8, 16), config(most, 5, 3)} {
		if got := live.Serve(c, s, calls...); !sameAnswers(got, want) {
			t.Fatalf("Serve(%v, ..) isn't what a book answers", c)
		}
	}
	// Shards that are still at it when all is told, and shards that wait for each task.
	heavy := slices.Concat(slices.Repeat([]api.Call{sub("!(" + wide(60) + ")")}, 60), slices.Repeat([]api.Call{match(number("a", 2))}, 100))
	for _, c := range []api.Config{config(most, 8, 1), config(most, 3, 16)} {
		if got, want := live.Serve(c, s, heavy...), wantServe(c, s, heavy); !sameAnswers(got, want) {
			t.Fatalf("Serve(%v, ..) isn't what a book answers", c)
		}
	}
}

// P24.1, P24.2, P5, P8: calls by chance with many configs: the answers are a book's, and hang on neither shards nor room; how goroutines run isn't seen.
func TestServeByChance(t *testing.T) {
	chance := rand.New(rand.NewPCG(24, 1))
	s := attributes(t)
	codes := map[api.Errno]int{}
	before := runtime.GOMAXPROCS(0)
	defer runtime.GOMAXPROCS(before)
	for round := range 60 {
		runtime.GOMAXPROCS([]int{1, 2, before}[round%3])
		l := []api.Limits{narrow, someLimits(chance), most}[chance.IntN(3)]
		calls := someCalls(chance, chance.IntN(80))
		want := wantServe(config(l, 1, 1), s, calls)
		for _, a := range want {
			codes[a.Code]++
			if len(a.IDs) > 1 {
				codes[-1]++
			}
		}
		list := []api.Config{config(l, 1, 1), config(l, 8, 16)}
		for range 8 {
			list = append(list, someConfig(chance, l))
		}
		for _, c := range list {
			for range 2 {
				if got := live.Serve(c, s, calls...); !sameAnswers(got, want) {
					t.Fatalf("Serve(%v, %v) = %v, not %v", c, calls, got, want)
				}
			}
		}
	}
	for _, e := range []api.Errno{-1, api.OK, api.ErrForm, api.ErrSyntax, api.ErrTooDeep, api.ErrKind, api.ErrTooWide, api.ErrTooMany, api.ErrNoSub} {
		if codes[e] < 10 {
			t.Errorf("%d came only %d times", e, codes[e])
		}
	}
}
