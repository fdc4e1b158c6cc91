package live_test

import (
	"math/rand/v2"
	"testing"

	"trommel/api"
	"trommel/disk"
	"trommel/flow"
	"trommel/live"
	"trommel/schema"
	"trommel/store"
)

// stored is what a store answers to calls that are made in rows of some lengths.
func stored(t *testing.T, l api.Limits, s *schema.Schema, calls []api.Call, length func() int) []api.Answer {
	t.Helper()
	x, e := store.Open(l, s, disk.New())
	if e != api.OK {
		t.Fatal(e)
	}
	var answers []api.Answer
	for len(calls) > 0 {
		count := min(length(), len(calls))
		answers = append(answers, x.Do(calls[:count]...)...)
		calls = calls[count:]
	}
	return answers
}

// received is what the one user of a system receives, whatever is picked.
func received(t *testing.T, c api.Config, s *schema.Schema, calls []api.Call, pick func() int) []api.Answer {
	t.Helper()
	w, e := flow.New(c, s, disk.New())
	if e != api.OK {
		t.Fatal(e)
	}
	who := flow.Clamp(c).Users - 1
	if e := w.Submit(who, calls...); e != api.OK {
		t.Fatal(e)
	}
	for {
		if _, ok := w.Step(pick()); !ok {
			return w.Answers(who)
		}
	}
}

// alike holds that Serve answers as a store does, and as one user of a system receives.
func alike(t *testing.T, chance *rand.Rand, c api.Config, s *schema.Schema, calls []api.Call) {
	t.Helper()
	got := live.Serve(c, s, calls...)
	for _, length := range []func() int{func() int { return len(calls) }, func() int { return 1 }, func() int { return 1 + chance.IntN(5) }} {
		if want := stored(t, c.Limits, s, calls, length); !sameAnswers(got, want) {
			t.Fatalf("Serve(%v, %v) = %v, a store answers %v", c, calls, got, want)
		}
	}
	for _, pick := range []func() int{func() int { return 0 }, func() int { return -1 }, func() int { return 1 }, func() int { return chance.IntN(100) - 50 }, chance.Int, func() int { return -chance.IntN(3) }} {
		if want := received(t, c, s, calls, pick); !sameAnswers(got, want) {
			t.Fatalf("Serve(%v, %v) = %v, a user receives %v", c, calls, got, want)
		}
	}
}

// P24.3: every kind of answer.
func TestServeAsStoreAndFlow(t *testing.T) {
	chance := rand.New(rand.NewPCG(24, 3))
	s := attributes(t)
	calls := []api.Call{
		sub("a {1} | b {2}"), sub("!a {1}"), match(number("a", 1)), replace(1, `c "x"*`), match(word("c", "xy"), number("a", 1)), sub("b {1} | b {2} | b {3}"), sub("b {1} | b {2}"), sub("a {"), sub("z {1}"), sub(wide(5)), sub(deep(4)), unsub(7), replace(7, "a {1}"), match(number("z", 1)), {}, unsub(2), match(),
		sub("a {1} | a {2} | b {3}"), match(number("b", 3)), unsub(1), unsub(1), match(number("a", 2), number("b", 3)),
	}
	for _, l := range []api.Limits{narrow, most, {}} {
		for _, c := range configs(l, false) {
			alike(t, chance, c, s, calls)
		}
	}
	alike(t, chance, config(most, 3, 2), s, nil)
}

// P24.3: by chance.
func TestServeAsStoreAndFlowByChance(t *testing.T) {
	chance := rand.New(rand.NewPCG(24, 4))
	s := attributes(t)
	for range 60 {
		l := []api.Limits{narrow, someLimits(chance), most}[chance.IntN(3)]
		alike(t, chance, someConfig(chance, l), s, someCalls(chance, chance.IntN(50)))
	}
}
