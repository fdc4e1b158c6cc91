package flow_test

import (
	"math"
	"slices"
	"testing"

	"trommel/api"
)

// down is a system whose power went at a Sync.
func down(t *testing.T, c api.Config) *twin {
	t.Helper()
	p := begun(t, c)
	p.submit(0, sub("a {1}"), match())
	p.moves(move(api.MoveSend, 0), move(api.MoveTake, 0))
	p.arm(1, 0)
	p.moves(move(api.MoveSync, 0))
	return p
}

// P23.1: users from 0 to the last one may submit, none else.
func TestSubmitUsers(t *testing.T) {
	for users := 1; users <= api.MaxUsers; users++ {
		p := begun(t, config(most, 1, 2, 2, users))
		for _, who := range []int{math.MinInt, -1 << 32, -2, -1, users, users + 1, 8, 9, 1 << 32, math.MaxInt} {
			p.submits(api.ErrRange, who)
			p.submits(api.ErrRange, who, sub("a {1}"))
			p.submits(api.ErrRange, who, match(), match())
			p.ready()
		}
		for _, who := range []int{0, users - 1} {
			p.submit(who)
			p.submit(who, match())
			p.can(true, api.MoveSend, who)
			p.drain()
		}
		for who := range users {
			p.submit(who, sub("a {1}"))
		}
		p.drain()
		if p.w.Subs() != users {
			t.Errorf("Subs = %d", p.w.Subs())
		}
	}
}

// P23.1: no calls, one, and more than fit into inbox and window; a full queue makes wait and refuses nothing.
func TestSubmitMany(t *testing.T) {
	for _, c := range []api.Config{least, config(most, 2, 1, 1, 2), config(most, 2, 1, 4, 2), config(most, 2, 4, 1, 2), config(most, 2, 16, 16, 2)} {
		p := begun(t, c)
		p.submit(0)
		p.ready()
		if p.drain() != 0 || p.w.Waiting(0) != 0 {
			t.Fatal("somebody wants something")
		}
		p.submit(0, sub("a {1}"))
		p.ready(move(api.MoveSend, 0))
		p.submit(0, slices.Repeat([]api.Call{match(number("a", 1))}, 100)...)
		if got := p.w.Waiting(0); got != 101 {
			t.Fatalf("Waiting = %d", got)
		}
		p.submit(0, sub("a {"))
		p.drain()
		want := append([]api.Answer{given(1)}, slices.Repeat([]api.Answer{met(1)}, 100)...)
		p.received(0, append(want, code(api.ErrSyntax))...)
	}
}

// P23.1: calls stand behind the user's unsent ones, whenever they are submitted.
func TestSubmitBetweenSteps(t *testing.T) {
	p := begun(t, config(most, 2, 2, 2, 2))
	var want []api.Answer
	for i := range 30 {
		p.submit(0, sub("a {1}"))
		want = append(want, given(i+1))
		for range i % 7 {
			p.step(i * 5)
		}
	}
	p.drain()
	p.received(0, want...)
	p.received(1)
	// What one user submits doesn't stand among another one's.
	p.submit(0, unsub(1), match(number("z", 1)))
	p.submit(1, unsub(99), sub("a"))
	p.submit(0, unsub(2))
	p.drain()
	p.received(0, append(want, done, code(api.ErrKind), done)...)
	p.received(1, code(api.ErrNoSub), code(api.ErrSyntax))
}

// P23.1, P6: behind Stop nothing is submitted any more, not even nothing; what was goes on, and is answered.
func TestStop(t *testing.T) {
	calls := []api.Call{sub("a {1}"), match(number("a", 1)), unsub(1), sub("!a {1}"), match(), sub("a {")}
	want := []api.Answer{given(1), met(1), done, given(2), met(2), code(api.ErrSyntax)}
	for steps := range 45 {
		p := begun(t, config(most, 2, 1, 2, 2))
		p.submit(0, calls...)
		for i := range steps {
			p.step(i * i)
		}
		p.stop()
		for range 2 {
			p.submits(api.ErrStopped, 0, match())
			p.submits(api.ErrStopped, 1)
			p.submits(api.ErrRange, 2, match())
			p.submits(api.ErrRange, -1)
		}
		p.drain()
		p.received(0, want...)
		p.stop()
		p.submits(api.ErrStopped, 0, match())
		p.ready()
		p.tidies(api.OK)
	}
	// Of a system that wants nothing, too.
	p := begun(t, least)
	p.stop()
	p.submits(api.ErrStopped, 0, sub("a {1}"))
	if p.drain() != 0 || p.w.Waiting(0) != 0 {
		t.Error("something was submitted behind Stop")
	}
}

// P23.1: which error comes first where two would fit: ErrRange, ErrStopped, ErrDown.
func TestSubmitErrors(t *testing.T) {
	p := down(t, config(most, 2, 2, 2, 2))
	for _, calls := range [][]api.Call{nil, {match()}, {sub("a {"), {}}} {
		p.submits(api.ErrDown, 0, calls...)
		p.submits(api.ErrDown, 1, calls...)
		p.submits(api.ErrRange, 2, calls...)
		p.submits(api.ErrRange, -1, calls...)
	}
	p.stop()
	for _, calls := range [][]api.Call{nil, {match()}, {sub("a {"), {}}} {
		p.submits(api.ErrStopped, 0, calls...)
		p.submits(api.ErrStopped, 1, calls...)
		p.submits(api.ErrRange, 2, calls...)
		p.submits(api.ErrRange, -1, calls...)
	}
	if p.w.Waiting(0) != 2 || p.w.Waiting(1) != 0 {
		t.Errorf("Waiting = %d, %d", p.w.Waiting(0), p.w.Waiting(1))
	}
	p.isDown()
	p = begun(t, config(most, 2, 2, 2, 2))
	p.stop()
	p.submits(api.ErrRange, 2)
	p.submits(api.ErrStopped, 1)
}
