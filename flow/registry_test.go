package flow_test

import (
	"math/rand/v2"
	"slices"
	"testing"

	"trommel/api"
	"trommel/book"
	"trommel/disk"
	"trommel/flow"
	"trommel/schema"
)

// witness sees what is submitted to a system and in which order it is taken, and asks a book the same.
type witness struct {
	t    *testing.T
	w    *flow.World
	b    *book.Book
	rows [][]api.Call   // each user's calls that weren't taken
	want [][]api.Answer // what the book answered to each user's calls
	seen int            // how many takes
}

func newWitness(t *testing.T, c api.Config, s *schema.Schema, d *disk.Disk, changes ...api.Change) *witness {
	t.Helper()
	w, e := flow.New(c, s, d)
	if e != api.OK {
		t.Fatal(e)
	}
	b := book.New(c.Limits, s)
	if e := b.Apply(changes...); e != api.OK {
		t.Fatal(e)
	}
	return &witness{t: t, w: w, b: b, rows: make([][]api.Call, c.Users), want: make([][]api.Answer, c.Users)}
}

func (x *witness) submit(who int, calls ...api.Call) {
	x.t.Helper()
	if e := x.w.Submit(who, calls...); e != api.OK {
		x.t.Fatal(e)
	}
	x.rows[who] = append(x.rows[who], calls...)
}

// look asks the book what was taken since, and holds that what each user has received is a beginning of what it answered.
func (x *witness) look() {
	x.t.Helper()
	order := x.w.Order()
	for _, who := range order[x.seen:] {
		x.want[who] = append(x.want[who], x.b.Do(first(&x.rows[who]))...)
	}
	x.seen = len(order)
	for who, want := range x.want {
		got := x.w.Answers(who)
		if len(got) > len(want) || !sameAnswers(got, want[:len(got)]) {
			x.t.Fatalf("the user %d has received %v of %v", who, got, want)
		}
		for _, a := range got {
			if !allowed(a.Code) {
				x.t.Fatalf("the user %d was refused with %d", who, a.Code)
			}
		}
	}
	if !slices.Equal(x.w.Changes(), x.b.Changes()) || x.w.Next() != x.b.Next() || x.w.Subs() != x.b.Subs() || x.w.Total() != x.b.Total() {
		x.t.Fatalf("the registry is %v, not %v", x.w.Changes(), x.b.Changes())
	}
}

// allowed tells whether a call may be answered so.
func allowed(e api.Errno) bool {
	switch e {
	case api.OK, api.ErrForm, api.ErrSyntax, api.ErrTooDeep, api.ErrKind, api.ErrTooWide, api.ErrTooMany, api.ErrNoSub:
		return true
	}
	return false
}

// all holds that everybody has received all answers.
func (x *witness) all() {
	x.t.Helper()
	x.look()
	for who, want := range x.want {
		if len(x.rows[who]) > 0 || len(x.w.Answers(who)) != len(want) || x.w.Waiting(who) != 0 {
			x.t.Fatalf("the user %d waits for %d answers", who, x.w.Waiting(who))
		}
	}
}

// P23.2, P23.5, P5: many users, many schedules, with the smallest and the greatest config and some between, over disks that bear a registry and others: at every moment what was received is what a book answers to the calls in the order of the takes.
func TestOneRegistry(t *testing.T) {
	chance := rand.New(rand.NewPCG(23, 2))
	s := attributes(t)
	codes, others := map[api.Errno]int{}, 0
	for round := range 240 {
		l := []api.Limits{narrow, someLimits(chance), most}[chance.IntN(3)]
		c := someConfig(chance, l)
		switch round % 3 {
		case 0:
			c = least
			c.Limits, c.Users = l, 1+chance.IntN(8)
		case 1:
			c = greatest
			c.Limits = l
		}
		d := disk.New()
		var changes []api.Change
		if l == most && chance.IntN(2) == 0 {
			for i, text := range texts() {
				changes = append(changes, subbed(i+1, text))
			}
			d.Append("journal", journalOf(t, 1, changes...)...)
		}
		x := newWitness(t, c, s, d, changes...)
		for range 12 {
			for range chance.IntN(6) {
				x.submit(chance.IntN(c.Users), someCall(chance, 2, 6))
			}
			for range chance.IntN(30) {
				x.w.Step(somePick(chance))
				x.look()
			}
			if chance.IntN(5) == 0 && x.w.Tidy() != api.OK {
				t.Fatal("Tidy")
			}
			x.look()
		}
		for {
			if _, ok := x.w.Step(somePick(chance)); !ok {
				break
			}
			x.look()
		}
		x.all()
		if !slices.IsSorted(x.w.Order()) {
			others++
		}
		for _, row := range x.want {
			for _, a := range row {
				codes[a.Code]++
				if len(a.IDs) > 0 {
					codes[-1]++
				}
			}
		}
	}
	if others < 100 {
		t.Errorf("only %d orders of the takes weren't by users", others)
	}
	for _, e := range []api.Errno{-1, api.OK, api.ErrForm, api.ErrSyntax, api.ErrTooDeep, api.ErrKind, api.ErrTooWide, api.ErrTooMany, api.ErrNoSub} {
		if codes[e] < 20 {
			t.Errorf("%d came only %d times", e, codes[e])
		}
	}
}

// P23.2, P23.3: every schedule of a small system, from its first step to its last.
func TestEverySchedule(t *testing.T) {
	s := attributes(t)
	for _, row := range []struct {
		c     api.Config
		calls [][]api.Call
		ends  int // how many schedules there must be, at least
	}{
		{config(narrow, 1, 1, 1, 2), [][]api.Call{{sub("a {1}")}, {match(number("a", 1))}}, 50},
		{config(narrow, 1, 1, 1, 2), [][]api.Call{{sub("a {1}")}, {sub("a {1} | b {1}")}}, 200},
		{config(narrow, 2, 1, 1, 1), [][]api.Call{{sub("a {1}"), match(number("a", 1)), unsub(1)}}, 30},
		{config(narrow, 1, 2, 2, 1), [][]api.Call{{sub("a {1}"), match(number("a", 1))}}, 20},
		{config(narrow, 2, 1, 2, 1), [][]api.Call{{sub("a {1} | b {1}"), match(number("a", 1))}}, 100},
		{config(narrow, 2, 2, 1, 2), [][]api.Call{{unsub(1)}, {sub("b {1} | a {1}")}}, 1000},
	} {
		ends, longest, waiting := 0, 0, 0
		for _, calls := range row.calls {
			waiting += len(calls)
		}
		var goOn func(picks []int)
		goOn = func(picks []int) {
			x := newWitness(t, row.c, s, disk.New())
			for who, calls := range row.calls {
				x.submit(who, calls...)
			}
			for _, pick := range picks {
				x.w.Step(pick)
				x.look()
			}
			count := len(x.w.Ready())
			if count == 0 {
				x.all()
				ends++
				longest = max(longest, len(picks))
				return
			}
			for pick := range count {
				goOn(append(picks[:len(picks):len(picks)], pick))
			}
		}
		goOn(nil)
		if ends < row.ends || longest > waiting*(row.c.Shards+5) || longest < waiting*(row.c.Shards+4) {
			t.Errorf("%v: %d schedules, the longest of %d steps", row.calls, ends, longest)
		}
	}
}

// takeNext does moves till the next call of a user is taken, and no other one's.
func takeNext(t *testing.T, chance *rand.Rand, w *flow.World, who int) {
	t.Helper()
	for {
		list := w.Ready()
		if pick := slices.Index(list, take(who)); pick >= 0 && chance.IntN(3) > 0 {
			w.Step(pick)
			return
		}
		var others []int
		for i, one := range list {
			if one.Kind != api.MoveTake {
				others = append(others, i)
			}
		}
		if len(others) > 0 {
			w.Step(others[chance.IntN(len(others))])
		} else if !slices.Contains(list, take(who)) {
			t.Fatalf("the next call of %d is never taken: %v", who, list)
		}
	}
}

// P8: the number of shards, the room of queues and windows change no answer, if the calls are taken in the same order.
func TestShardsAreNobodysBusiness(t *testing.T) {
	chance := rand.New(rand.NewPCG(23, 8))
	s := attributes(t)
	for range 40 {
		l := []api.Limits{narrow, someLimits(chance), most}[chance.IntN(3)]
		rows := make([][]api.Call, 3)
		var order []int
		for range 25 {
			who := chance.IntN(3)
			rows[who], order = append(rows[who], someCall(chance, 3, 5)), append(order, who)
		}
		var want [][]api.Answer
		var files string
		for i, c := range []api.Config{config(l, 1, 1, 1, 3), config(l, 8, 16, 16, 3), config(l, 2, 1, 16, 3), config(l, 8, 1, 1, 3), config(l, 1, 16, 1, 3), config(l, 3, 2, 2, 8), someConfig(chance, l), someConfig(chance, l)} {
			c.Users = max(c.Users, 3)
			d := disk.New()
			w, e := flow.New(c, s, d)
			if e != api.OK {
				t.Fatal(e)
			}
			for who, calls := range rows {
				w.Submit(who, calls...)
			}
			for _, who := range order {
				takeNext(t, chance, w, who)
			}
			for {
				if _, ok := w.Step(somePick(chance)); !ok {
					break
				}
			}
			var got [][]api.Answer
			for who := range 3 {
				got = append(got, w.Answers(who))
			}
			if i == 0 {
				want, files = got, filesOf(d)
				continue
			}
			if !slices.Equal(w.Order(), order) || !slices.EqualFunc(got, want, sameAnswers) {
				t.Fatalf("with %v answered is %v, not %v", c, got, want)
			}
			if filesOf(d) != files {
				t.Fatalf("with %v the disk has %s, not %s", c, filesOf(d), files)
			}
		}
	}
}

// P23.1: against the model, step by step, with everything that may be done between: Submit, Stop, Tidy, and the power going.
func TestAsTold(t *testing.T) {
	chance := rand.New(rand.NewPCG(23, 5))
	kinds, downs := map[int]int{}, map[int]int{}
	for round := range 600 {
		c := someConfig(chance, someLimits(chance))
		switch round % 5 {
		case 0:
			c = least
		case 1:
			c = greatest
		}
		p := begun(t, c)
		if chance.IntN(2) == 0 {
			p.arm(1+chance.IntN(12), chance.IntN(60))
		}
		for range 60 {
			switch chance.IntN(12) {
			case 0, 1, 2:
				who := chance.IntN(p.m.c.Users+2) - 1
				calls := []api.Call{someCall(chance, 2, 5), someCall(chance, 2, 5), someCall(chance, 2, 5)}[chance.IntN(4):]
				want := p.m.submit(who, nil)
				p.submits(want, who, calls...)
			case 3:
				if chance.IntN(20) == 0 {
					p.stop()
				}
			case 4:
				if chance.IntN(4) == 0 && !p.w.Down() {
					if got, want := p.w.Tidy(), p.m.tidy(); got != want {
						t.Fatalf("Tidy = %d, not %d", got, want)
					} else if got != api.OK {
						downs[0]++
					}
					p.hold()
				}
			default:
				wasDown := p.w.Down()
				one, _ := p.step(somePick(chance))
				kinds[one.Kind]++
				if p.w.Down() && !wasDown {
					downs[one.Kind]++
				}
			}
		}
		p.drain()
		if p.w.Down() {
			p.isDown()
			p = p.crash(chance.IntN(200), chance.IntN(200))
			p.begin(api.OK)
			for who := range p.m.c.Users {
				p.submit(who, someCall(chance, 2, 5), match(someEvent(chance)...))
			}
			p.drain()
		}
	}
	for kind := api.MoveSend; kind <= api.MoveMerge; kind++ {
		if kinds[kind] < 200 {
			t.Errorf("the kind %d was moved only %d times", kind, kinds[kind])
		}
	}
	if downs[0] < 3 || downs[api.MoveTake] < 10 || downs[api.MoveSync] < 10 || len(downs) != 3 {
		t.Errorf("the power went at %v", downs)
	}
}
