package flow_test

import (
	"math"
	"math/rand/v2"
	"slices"
	"testing"

	"trommel/api"
)

// busy is a system with just so many moves ready, of 1 to 8: as many users have something to send.
func busy(t *testing.T, count int) *twin {
	t.Helper()
	p := begun(t, config(most, 1, 1, 1, count))
	for who := range count {
		p.submit(who, match())
	}
	return p
}

// P23.1: Step does the move with the number pick modulo how many there are: picks below 0, 0, beyond the number, at the ends of all numbers.
func TestStepPicks(t *testing.T) {
	for count := 1; count <= api.MaxUsers; count++ {
		for pick := -3 * count; pick <= 3*count; pick++ {
			p := busy(t, count)
			if got, ok := p.step(pick); got != send((pick+3*count)%count) || !ok {
				t.Errorf("Step(%d) of %d = %v, %v", pick, count, got, ok)
			}
		}
		for _, far := range []int{math.MinInt, math.MinInt + 1, math.MinInt + 7, -1 << 40, 1 << 40, math.MaxInt - 1, math.MaxInt} {
			p := busy(t, count)
			p.step(far)
		}
	}
	p := busy(t, 3)
	p.moves(send(1), take(1))
	p.ready(send(0), send(2), work(0))
	if got, ok := p.step(-1); got != work(0) || !ok {
		t.Errorf("Step(-1) = %v, %v", got, ok)
	}
	p.ready(send(0), send(2), merges)
	if got, ok := p.step(-2); got != send(2) || !ok {
		t.Errorf("Step(-2) = %v, %v", got, ok)
	}
}

// P23.1: where nothing is ready Step answers the zero Move and false, and changes nothing.
func TestStepOfNothing(t *testing.T) {
	p := begun(t, config(most, 2, 1, 1, 2))
	for range 2 {
		for _, pick := range []int{math.MinInt, -1, 0, 1, 7, math.MaxInt} {
			if got, ok := p.step(pick); got != (api.Move{}) || ok {
				t.Errorf("Step(%d) = %v, %v", pick, got, ok)
			}
		}
		p.answers(1, []api.Call{match()}, met())
	}
}

// P23.1: Run of no picks, of some, and of more than there are steps to do.
func TestRun(t *testing.T) {
	p := begun(t, config(most, 2, 1, 1, 2))
	p.runs(0)
	p.runs(0, 0)
	p.runs(0, 5, -1, 2)
	p.submit(0, sub("a {1}"), match(number("a", 1)))
	p.runs(0)
	p.ready(send(0))
	p.runs(2, 9, -4)
	p.ready(syncs, work(0), work(1))
	p.runs(1, -1)
	p.ready(syncs, work(0))
	// Four more of the Sub, six of the Match.
	p.runs(10, slices.Repeat([]int{1}, 50)...)
	p.received(0, given(1), met(1))
	p.runs(0, 0, 0)
	// As many picks as steps.
	p.submit(1, match())
	p.runs(6, 0, 0, 0, 0, 0, 0)
	p.ready()
	p.submit(1, match())
	p.runs(5, 0, 0, 0, 0, 0)
	p.ready(receive(1))
	p.runs(1, 0, 0)
}

// P23.1: Run does what Step of each pick in turn does.
func TestRunIsSteps(t *testing.T) {
	chance := rand.New(rand.NewPCG(23, 1))
	for range 60 {
		c := someConfig(chance, someLimits(chance))
		p, q := begun(t, c), begun(t, c)
		for range 6 {
			who, call := chance.IntN(p.m.c.Users), someCall(chance, 2, 4)
			p.submit(who, call)
			q.submit(who, call)
			var picks []int
			for range chance.IntN(20) {
				picks = append(picks, somePick(chance))
			}
			steps := 0
			for _, pick := range picks {
				if _, ok := q.step(pick); !ok {
					break
				}
				steps++
			}
			p.runs(steps, picks...)
			for who := range p.m.c.Users {
				p.received(who, q.w.Answers(who)...)
			}
			if a, b := filesOf(p.d), filesOf(q.d); a != b {
				t.Fatalf("the disks are %s and %s", a, b)
			}
		}
	}
}

// The chapter's second example, and how many steps other calls take: a change Shards + 5, all others one fewer.
func TestDrainSteps(t *testing.T) {
	p := begun(t, config(most, 2, 1, 1, 2))
	p.submit(0, sub("a {1}"), sub("a {2}"))
	if got := p.drain(); got != 14 {
		t.Errorf("Drain = %d", got)
	}
	if one, ok := p.step(0); one != (api.Move{}) || ok || p.drain() != 0 {
		t.Errorf("Step = %v, %v", one, ok)
	}
	for shards := 1; shards <= api.MaxShards; shards++ {
		for _, row := range []struct {
			calls []api.Call
			want  int
		}{
			{nil, 0}, {[]api.Call{sub("a {1}")}, shards + 5}, {[]api.Call{match()}, shards + 4}, {[]api.Call{sub("a {")}, shards + 4}, {[]api.Call{unsub(1)}, shards + 4}, {[]api.Call{{}}, shards + 4}, {[]api.Call{match(number("z", 1))}, shards + 4},
			{[]api.Call{sub("a {1}"), replace(1, "b {1}"), match(), unsub(1), unsub(1)}, 3*(shards+5) + 2*(shards+4)},
		} {
			p := begun(t, config(most, shards, 1, 1, 1))
			p.submit(0, row.calls...)
			if got := p.drain(); got != row.want {
				t.Errorf("%d shards, %v: Drain = %d, not %d", shards, row.calls, got, row.want)
			}
		}
		// With a wide window all four are sent and taken ahead of the one Sync.
		p := begun(t, config(most, shards, 4, 4, 1))
		p.submit(0, slices.Repeat([]api.Call{sub("a {1}")}, 4)...)
		if got := p.drain(); got != 4*(shards+4)+1 {
			t.Errorf("%d shards: Drain = %d", shards, got)
		}
	}
	// What was done already isn't done again.
	p = begun(t, config(most, 2, 1, 1, 1))
	p.submit(0, sub("a {1}"))
	for left := 7; left >= 0; left-- {
		q := begun(t, config(most, 2, 1, 1, 1))
		q.submit(0, sub("a {1}"))
		q.runs(7-left, slices.Repeat([]int{-1}, 7-left)...)
		if got := q.drain(); got != left {
			t.Errorf("behind %d steps Drain = %d", 7-left, got)
		}
	}
}

// P23.3, P6: while somebody waits something is ready; each call takes at most Shards + 5 steps, whatever is picked; then nobody waits.
func TestNobodyWaitsForEver(t *testing.T) {
	chance := rand.New(rand.NewPCG(23, 3))
	exact, waited := 0, 0
	for round := range 300 {
		c := someConfig(chance, someLimits(chance))
		switch round % 4 {
		case 0:
			c = least
		case 1:
			c = greatest
		}
		p := begun(t, c)
		calls, most, changes := 0, 0, 0
		for who := range p.m.c.Users {
			for range chance.IntN(6) {
				p.submit(who, someCall(chance, 2, 4))
				calls++
			}
		}
		// Ways to pick that let one part lie as long as there is another: from the front, from the end, by chance.
		next := []func() int{func() int { return 0 }, func() int { return -1 }, func() int { return somePick(chance) }, func() int { return 1 }}[chance.IntN(4)]
		for p.m.waits() > 0 {
			if len(p.w.Ready()) == 0 {
				t.Fatalf("%d calls wait, and nothing is ready", p.m.waits())
			}
			before := p.m.waits()
			one, ok := p.step(next())
			if !ok {
				t.Fatal("nothing was done")
			}
			if one.Kind == api.MoveSync {
				changes++
			}
			if p.m.waits() == before {
				waited++
			}
			most++
		}
		bound := (p.m.c.Shards + 5) * calls
		if most > bound {
			t.Fatalf("%d steps for %d calls with %d shards", most, calls, p.m.c.Shards)
		}
		if most != (p.m.c.Shards+4)*calls+changes {
			t.Fatalf("%d steps for %d calls with %d shards, %d of them Syncs", most, calls, p.m.c.Shards, changes)
		}
		if most == bound && calls > 0 {
			exact++
		}
		p.ready()
		if got := p.drain(); got != 0 {
			t.Fatalf("nobody waits, and Drain = %d", got)
		}
	}
	if exact < 5 || waited < 1000 {
		t.Errorf("the bound was reached %d times; %d steps were done while somebody waited", exact, waited)
	}
}

// P23.3: of calls that are submitted between the steps, too.
func TestNobodyWaitsBehindMore(t *testing.T) {
	chance := rand.New(rand.NewPCG(23, 4))
	for range 100 {
		p := begun(t, someConfig(chance, someLimits(chance)))
		for range 30 {
			p.submit(chance.IntN(p.m.c.Users), someCall(chance, 2, 4))
			for range chance.IntN(12) {
				p.step(somePick(chance))
			}
			if chance.IntN(8) == 0 {
				p.tidies(api.OK)
			}
		}
		bound, steps := (p.m.c.Shards+5)*p.m.waits(), 0
		for len(p.w.Ready()) > 0 {
			p.step(somePick(chance))
			steps++
		}
		if steps > bound || p.m.waits() > 0 {
			t.Fatalf("%d steps, not at most %d; %d calls wait", steps, bound, p.m.waits())
		}
	}
}
