package flow_test

import (
	"math"
	"slices"
	"testing"

	"trommel/api"
	"trommel/disk"
	"trommel/flow"
	"trommel/journal"
)

// The document's examples 5, 6, 8 and 9, on a system.
func TestExamplesOfTheWhole(t *testing.T) {
	a1 := match(number("a", 1))
	p := begun(t, config(most, 3, 2, 3, 2))
	p.answers(0, []api.Call{sub("a {1}"), sub("!a {1}"), a1, replace(2, "a [0, 9]"), a1, unsub(1), a1, sub("a {1}")}, given(1), given(2), met(1), done, met(1, 2), done, met(2), given(3))
	p = begun(t, config(api.Limits{Depth: 9, Conj: 9, Subs: 1, Total: 9}, 3, 2, 3, 2))
	p.answers(1, []api.Call{sub("a {1}"), sub("a {1}"), replace(1, "a {2}")}, given(1), code(api.ErrTooMany), done)
	// Whose call is taken first is the schedule's.
	for _, row := range []struct {
		order []int
		want  api.Answer
	}{{[]int{0, 1}, met(1)}, {[]int{1, 0}, met()}} {
		p = begun(t, config(most, 2, 1, 1, 2))
		p.submit(0, sub("a {1}"))
		p.submit(1, a1)
		p.moves(send(0), send(1), take(row.order[0]), work(0), work(1), take(row.order[1]))
		p.drain()
		p.received(1, row.want)
		if got := p.w.Order(); !slices.Equal(got, row.order) {
			t.Errorf("Order = %v", got)
		}
	}
	p = begun(t, config(most, 2, 2, 1, 1))
	p.submit(0, a1, a1)
	p.moves(send(0))
	p.ready(take(0))
	p = begun(t, config(most, 2, 2, 2, 1))
	p.submit(0, a1, a1)
	p.moves(send(0))
	p.ready(send(0), take(0))
}

// takes does one call, up to its take, and holds its acts, and whether it left something pending.
func (p *twin) takes(who, acts int, call api.Call) {
	p.t.Helper()
	p.drain()
	p.submit(who, call)
	p.moves(send(who))
	before, order := p.d.Acts(), p.w.Order()
	p.moves(take(who))
	p.took(before, acts)
	p.can(acts > 0, api.MoveSync, 0)
	for shard := range p.m.c.Shards {
		p.can(true, api.MoveShard, shard)
	}
	if got := p.w.Order(); !slices.Equal(got, append(order, who)) {
		p.t.Fatalf("Order = %v behind %v", got, order)
	}
}

// P23.1, MoveTake: each kind, answered OK and refused, with what its kind doesn't use set to something; by one act, if it is a change, and by none else.
func TestTakeKinds(t *testing.T) {
	pairs := []api.Pair{number("z", 1), {}}
	p := begun(t, config(narrow, 2, 2, 2, 2))
	for _, row := range []struct {
		call api.Call
		acts int
		want api.Answer
	}{
		{api.Call{Change: subbed(77, "a {1}"), Event: pairs}, 1, given(1)},
		{api.Call{Change: api.Change{Kind: api.Match, ID: 77, Text: "b"}, Event: []api.Pair{number("a", 1)}}, 0, met(1)},
		{sub("a {"), 0, code(api.ErrSyntax)}, {sub(deep(4)), 0, code(api.ErrTooDeep)}, {sub("z {1}"), 0, code(api.ErrKind)}, {sub("c {1}"), 0, code(api.ErrKind)}, {sub(wide(5)), 0, code(api.ErrTooWide)},
		{api.Call{Change: replaced(1, "b {2} | !a {1}"), Event: pairs}, 1, done}, {match(number("b", 2), number("a", 1)), 0, met(1)}, {match(number("a", 1)), 0, met()},
		{replace(1, "a"), 0, code(api.ErrSyntax)}, {replace(9, deep(4)), 0, code(api.ErrTooDeep)}, {replace(9, "z {1}"), 0, code(api.ErrKind)}, {replace(9, wide(5)), 0, code(api.ErrTooWide)}, {replace(9, "a {1}"), 0, code(api.ErrNoSub)}, {replace(-1, "a {1}"), 0, code(api.ErrNoSub)}, {replace(2, "a {1}"), 0, code(api.ErrNoSub)},
		{sub("a [0, 3] | b {3}"), 1, given(2)}, {sub("a {1}"), 0, code(api.ErrTooMany)}, {replace(1, wide(4)), 0, code(api.ErrTooMany)}, {replace(2, wide(3)), 1, done},
		{unsub(9), 0, code(api.ErrNoSub)}, {unsub(0), 0, code(api.ErrNoSub)}, {unsub(math.MinInt), 0, code(api.ErrNoSub)}, {unsub(math.MaxInt), 0, code(api.ErrNoSub)},
		{api.Call{Change: api.Change{Kind: api.Unsub, ID: 1, Text: "a {"}, Event: pairs}, 1, done}, {unsub(1), 0, code(api.ErrNoSub)}, {match(), 0, met()}, {match(number("b", 1)), 0, met(2)},
		{match(number("z", 1)), 0, code(api.ErrKind)}, {match(number("a", 1), number("a", 1)), 0, code(api.ErrKind)}, {match(word("a", "1")), 0, code(api.ErrKind)}, {match(number("b", 1), api.Pair{}), 0, code(api.ErrKind)},
		{api.Call{}, 0, code(api.ErrForm)}, {api.Call{Change: api.Change{Kind: 5, ID: 2, Text: "a {1}"}}, 0, code(api.ErrForm)}, {api.Call{Change: api.Change{Kind: -1}, Event: pairs}, 0, code(api.ErrForm)}, {api.Call{Change: api.Change{Kind: 1<<32 + api.Unsub, ID: 2}}, 0, code(api.ErrForm)}, {api.Call{Change: api.Change{Kind: math.MinInt}}, 0, code(api.ErrForm)},
		{api.Call{Change: api.Change{Kind: api.Sub, ID: -5, Text: " a {1} "}}, 1, given(3)}, {match(word("c", "x"), number("a", 1)), 0, met(2, 3)},
	} {
		p.takes(1, row.acts, row.call)
		p.drain()
		got := p.w.Answers(1)
		if last := got[len(got)-1]; !sameAnswer(last, row.want) {
			t.Fatalf("%v is answered %v, not %v", row.call, last, row.want)
		}
	}
	want := []api.Change{subbed(1, "a {1}"), replaced(1, "b {2} | !a {1}"), subbed(2, "a [0, 3] | b {3}"), replaced(2, wide(3)), unsubbed(1), subbed(3, " a {1} ")}
	if _, next, changes, e := journal.Open(p.d); next != 4 || !slices.Equal(changes, want) || e != api.OK {
		t.Errorf("the journal has %d, %v, %d, not %v", next, changes, e, want)
	}
}

// P23.1: of a Match the event is asked at its take, not when it is answered; of a change the shards hear in the order of the takes.
func TestMatchIsOfItsTake(t *testing.T) {
	p := begun(t, config(most, 2, 4, 4, 2))
	a1 := match(number("a", 1))
	p.submit(0, sub("a {1} | b {1}"), replace(1, "a {2}"), sub("a {1}"), unsub(2))
	p.submit(1, a1, a1, a1, a1)
	// All are taken in turn; only then the shards move, one ahead of the other.
	for range 4 {
		p.moves(send(0), send(1))
	}
	p.moves(take(0), take(1), take(0), take(1), work(1), work(1), work(1), work(1), work(0), work(0))
	p.moves(take(0), take(1))
	p.drain()
	p.received(1, met(1), met(), met(2), met())
	p.received(0, given(1), done, given(2), done)
	if got := p.w.Order(); !slices.Equal(got, []int{0, 1, 0, 1, 0, 1, 0, 1}) {
		t.Errorf("Order = %v", got)
	}
}

// P23.1: what the registry tells is of the takes: ahead of the answers, and whether they last or not.
func TestRegistryIsOfTheTakes(t *testing.T) {
	p := begun(t, config(most, 2, 4, 4, 1))
	p.submit(0, sub("a {1} | b {1}"), replace(1, "a {2}"), sub("b {1}"), unsub(1))
	for _, row := range []struct {
		changes []api.Change
		total   int
		next    int
	}{
		{[]api.Change{subbed(1, "a {1} | b {1}")}, 2, 2}, {[]api.Change{subbed(1, "a {2}")}, 1, 2}, {[]api.Change{subbed(1, "a {2}"), subbed(2, "b {1}")}, 2, 3}, {[]api.Change{subbed(2, "b {1}")}, 1, 3},
	} {
		p.moves(send(0))
		p.moves(take(0))
		if !slices.Equal(p.w.Changes(), row.changes) || p.w.Subs() != len(row.changes) || p.w.Total() != row.total || p.w.Next() != row.next || len(p.w.Answers(0)) != 0 {
			t.Errorf("Changes = %v, Total %d, Next %d", p.w.Changes(), p.w.Total(), p.w.Next())
		}
	}
	p.drain()
}

// P23.1: behind each step what the calls tell is told: a user's answers when it has received them, its waiting calls till then, the order when they are taken.
func TestToldBehindEachStep(t *testing.T) {
	p := begun(t, config(most, 1, 2, 2, 2))
	p.submit(0, sub("a {1}"), match(number("a", 1)))
	p.submit(1, unsub(9))
	for _, row := range []struct {
		api.Move
		order    []int
		received int // of 0
		waits    int // of 0
		other    int // of 1
	}{
		{send(0), nil, 0, 2, 1}, {send(1), nil, 0, 2, 1}, {take(1), []int{1}, 0, 2, 1}, {take(0), []int{1, 0}, 0, 2, 1}, {work(0), []int{1, 0}, 0, 2, 1}, {send(0), []int{1, 0}, 0, 2, 1}, {merges, []int{1, 0}, 0, 2, 1}, {receive(1), []int{1, 0}, 0, 2, 0},
		{work(0), []int{1, 0}, 0, 2, 0}, {syncs, []int{1, 0}, 0, 2, 0}, {merges, []int{1, 0}, 0, 2, 0}, {take(0), []int{1, 0, 0}, 0, 2, 0}, {receive(0), []int{1, 0, 0}, 1, 1, 0}, {work(0), []int{1, 0, 0}, 1, 1, 0}, {merges, []int{1, 0, 0}, 1, 1, 0}, {receive(0), []int{1, 0, 0}, 2, 0, 0},
	} {
		p.moves(row.Move)
		if got := p.w.Order(); !slices.Equal(got, row.order) {
			t.Errorf("behind %v Order = %v", row.Move, got)
		}
		if len(p.w.Answers(0)) != row.received || p.w.Waiting(0) != row.waits || len(p.w.Answers(1)) != 1-row.other || p.w.Waiting(1) != row.other {
			t.Errorf("behind %v: %v, %d; %v, %d", row.Move, p.w.Answers(0), p.w.Waiting(0), p.w.Answers(1), p.w.Waiting(1))
		}
	}
	p.ready()
	p.received(0, given(1), met(1))
	p.received(1, code(api.ErrNoSub))
}

// P23.1, MoveTake: a journal that answers an error: the system is down, the call isn't taken, and nothing else is done.
func TestTakeLosesPower(t *testing.T) {
	for _, call := range []api.Call{sub("a {1}"), replace(1, "a {2}"), unsub(1)} {
		for part := range 40 {
			p := begun(t, config(most, 2, 2, 3, 2))
			p.answers(1, []api.Call{sub("b {1}")}, given(1))
			p.submit(0, call, match())
			p.submit(1, match())
			p.moves(send(0), send(0), send(1), take(1), work(0))
			p.arm(1, part)
			acts := p.d.Acts()
			p.moves(take(0))
			p.took(acts, 0)
			if got := p.w.Order(); !slices.Equal(got, []int{1, 1}) || p.w.Waiting(0) != 2 || p.w.Waiting(1) != 1 {
				t.Fatalf("Order = %v; Waiting = %d, %d", got, p.w.Waiting(0), p.w.Waiting(1))
			}
			p.isDown()
			p.received(0)
			p.received(1, given(1))
		}
	}
	// A call that appends nothing doesn't ask the disk, whether its power is on or not.
	p := begun(t, config(most, 2, 2, 3, 2))
	p.d.Crash()
	p.md.Crash()
	p.answers(0, []api.Call{match(), sub("a {"), unsub(1), {}, match(number("z", 1))}, met(), code(api.ErrSyntax), code(api.ErrNoSub), code(api.ErrForm), code(api.ErrKind))
	if p.w.Down() {
		t.Fatal("the disk wasn't asked")
	}
	p.submit(0, sub("a {1}"))
	p.moves(send(0), take(0))
	p.isDown()
}

// P23.1, MoveSync: where it answers an error the system is down; what was received stays, nothing more comes.
func TestSyncLosesPower(t *testing.T) {
	p := begun(t, config(most, 2, 4, 4, 2))
	p.submit(0, match(), sub("a {1}"), sub("a {2}"), match())
	p.submit(1, match(), sub("b {1}"))
	p.moves(send(0), send(1), take(0), take(1), work(0), work(1), work(0), work(1), merges, merges, receive(0), send(0), send(0), take(0), take(0), work(0), work(1))
	p.arm(1, 0)
	acts := p.d.Acts()
	p.moves(syncs)
	p.took(acts, 0)
	// The answer of 1 stands in its outbox, and isn't received any more.
	p.received(0, met())
	p.received(1)
	if p.w.Waiting(0) != 3 || p.w.Waiting(1) != 2 || !slices.Equal(p.w.Order(), []int{0, 1, 0, 0}) {
		t.Errorf("Waiting = %d, %d; Order = %v", p.w.Waiting(0), p.w.Waiting(1), p.w.Order())
	}
	p.isDown()
	p.stop()
	p.isDown()
}

// P23.1, Tidy: three acts; the journal has the registry and Next alone. It may be asked at any time.
func TestTidy(t *testing.T) {
	p := begun(t, config(most, 2, 4, 4, 2))
	tidy := func(next int, changes ...api.Change) {
		t.Helper()
		acts := p.d.Acts()
		p.tidies(api.OK)
		p.took(acts, 3)
		if got, e := p.d.Read("journal"); string(got) != string(journalOf(t, next, changes...)) || e != api.OK || p.d.Loose("journal") != 0 || !slices.Equal(p.d.Names(), []string{"journal"}) {
			t.Fatalf("the journal has %q, %d", got, e)
		}
	}
	tidy(1)
	p.submit(0, sub("a {1}"), sub("a {2}"), replace(1, "b {1}"), unsub(2))
	p.moves(send(0))
	tidy(1)
	p.moves(take(0))
	tidy(2, subbed(1, "a {1}"))
	p.can(false, api.MoveSync, 0)
	p.moves(send(0), take(0), work(0), work(1), merges, work(0), work(1))
	p.can(false, api.MoveMerge, 0)
	tidy(3, subbed(1, "a {1}"), subbed(2, "a {2}"))
	p.can(true, api.MoveMerge, 0)
	p.drain()
	tidy(3, subbed(1, "b {1}"))
	p.answers(1, []api.Call{unsub(1)}, done)
	p.stop()
	tidy(3)
	tidy(3)
	p = p.crash()
	p.beginsWith(0, api.OK)
	p.answers(0, []api.Call{sub("a {1}")}, given(3))
}

// P23.1, Tidy: the power going at each of its acts; it answers the journal's error, and the system is down.
func TestTidyLosesPower(t *testing.T) {
	for n := 1; n <= 3; n++ {
		for part := range 60 {
			p := begun(t, config(most, 2, 4, 4, 2))
			p.answers(0, []api.Call{sub("a {1}"), sub("b {1}"), unsub(1)}, given(1), given(2), done)
			p.submit(0, sub("a {2}"), match())
			p.moves(send(0), take(0))
			p.arm(n, part)
			acts := p.d.Acts()
			p.tidies(api.ErrDown)
			p.took(acts, n-1)
			p.isDown()
			p.received(0, given(1), given(2), done)
			for _, choices := range [][]int{nil, {-1}, {-1, -1}, {part, part}} {
				f := p.crash(choices...)
				f.begin(api.OK)
				if got := f.w.Subs(); got != 1 && got != 2 || f.w.Next() != got+2 {
					t.Fatalf("Subs = %d, Next = %d", got, f.w.Next())
				}
			}
		}
	}
	// A disk that went off behind the system's back shows when it is asked.
	p := begun(t, least)
	p.d.Crash()
	p.md.Crash()
	if p.w.Down() {
		t.Fatal("the disk wasn't asked")
	}
	p.tidies(api.ErrDown)
	p.isDown()
}

// P23.5: a call is refused with these errors and no others; each of them comes, ErrForm just where the Kind is none.
func TestRefusals(t *testing.T) {
	seen := map[api.Errno]int{}
	long := make([]byte, api.MaxText+1)
	for i := range long {
		long[i] = ' '
	}
	copy(long, "a {1}")
	calls := []api.Call{sub(""), sub(string(long)), sub(string(long[:api.MaxText])), sub("a {1} &"), sub("\xff"), sub(deep(33)), sub("z {1}"), sub(wide(5)), sub("a {1}"), sub("a {1}"), unsub(7), replace(7, "a {1}"), replace(1, wide(4)), match(number("z", 1)), {}}
	for _, text := range texts() {
		calls = append(calls, sub(text), replace(1, text), replace(9, text), unsub(2))
	}
	for kind := -3; kind < 9; kind++ {
		calls = append(calls, api.Call{Change: api.Change{Kind: kind, ID: 1, Text: "a {1}"}})
	}
	s := attributes(t)
	w, e := flow.New(config(narrow, 3, 4, 8, 1), s, disk.New())
	if e != api.OK {
		t.Fatal(e)
	}
	w.Submit(0, calls...)
	w.Drain()
	for i, a := range w.Answers(0) {
		seen[a.Code]++
		kind := calls[i].Kind
		if (a.Code == api.ErrForm) != (kind < api.Sub || kind > api.Match) {
			t.Errorf("%v is answered %v", calls[i], a)
		}
	}
	for _, code := range []api.Errno{api.OK, api.ErrForm, api.ErrSyntax, api.ErrTooDeep, api.ErrKind, api.ErrTooWide, api.ErrTooMany, api.ErrNoSub} {
		if seen[code] == 0 {
			t.Errorf("%d never came", code)
		}
		delete(seen, code)
	}
	if len(seen) > 0 {
		t.Errorf("answered with %v", seen)
	}
}
