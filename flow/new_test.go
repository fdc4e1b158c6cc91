package flow_test

import (
	"math"
	"slices"
	"testing"

	"trommel/api"
	"trommel/book"
	"trommel/disk"
	"trommel/flow"
	"trommel/schema"
	"trommel/store"
)

// P23.1: Clamp brings each number into its range: from below, at both ends, from above.
func TestClamp(t *testing.T) {
	type field struct {
		name        string
		least, most int
		of          func(c *api.Config) *int
	}
	fields := []field{
		{"Depth", 1, 32, func(c *api.Config) *int { return &c.Depth }},
		{"Conj", 1, 64, func(c *api.Config) *int { return &c.Conj }},
		{"Subs", 0, 1024, func(c *api.Config) *int { return &c.Subs }},
		{"Total", 0, 4096, func(c *api.Config) *int { return &c.Total }},
		{"Shards", 1, 8, func(c *api.Config) *int { return &c.Shards }},
		{"Queue", 1, 16, func(c *api.Config) *int { return &c.Queue }},
		{"Window", 1, 16, func(c *api.Config) *int { return &c.Window }},
		{"Users", 1, 8, func(c *api.Config) *int { return &c.Users }},
	}
	inner := api.Config{Limits: api.Limits{Depth: 2, Conj: 3, Subs: 4, Total: 5}, Shards: 6, Queue: 7, Window: 9, Users: 3}
	for _, f := range fields {
		for _, n := range []int{math.MinInt, -1 << 32, -1, f.least - 1, f.least, f.least + 1, f.most - 1, f.most, f.most + 1, 1 << 32, 1<<32 + f.least, math.MaxInt} {
			c, want := inner, inner
			*f.of(&c) = n
			*f.of(&want) = max(f.least, min(n, f.most))
			if got := flow.Clamp(c); got != want {
				t.Errorf("%s %d: Clamp = %v, not %v", f.name, n, got, want)
			}
		}
	}
	if got := flow.Clamp(api.Config{}); got != config(api.Limits{Depth: 1, Conj: 1}, 1, 1, 1, 1) {
		t.Errorf("Clamp of zeros = %v", got)
	}
	far := math.MaxInt
	if got := flow.Clamp(config(api.Limits{Depth: far, Conj: far, Subs: far, Total: far}, far, far, far, far)); got != greatest {
		t.Errorf("Clamp of much = %v", got)
	}
	for _, c := range []api.Config{inner, least, greatest} {
		if got := flow.Clamp(c); got != c || got.Limits != book.Clamp(c.Limits) {
			t.Errorf("Clamp(%v) = %v", c, got)
		}
	}
}

// P23.1: the system is that of the clamped config: so many users, so many shards, so much room.
func TestNewClampsConfig(t *testing.T) {
	for _, n := range []int{math.MinInt, -1, 0, 1, 2, 7, 8, 9, 15, 16, 17, 99, math.MaxInt} {
		p := begun(t, config(most, n, n, n, n))
		p.submits(api.ErrRange, between(1, n, 8), match())
		for who := range between(1, n, 8) {
			p.submit(who, slices.Repeat([]api.Call{match()}, 20)...)
		}
		for slices.Contains(p.w.Ready(), move(api.MoveSend, 0)) {
			p.moves(move(api.MoveSend, 0))
		}
		for slices.Contains(p.w.Ready(), move(api.MoveTake, 0)) {
			p.moves(move(api.MoveTake, 0))
		}
		if got, want := len(p.w.Order()), between(1, n, 16); got != want {
			t.Errorf("%d: %d were taken, not %d", n, got, want)
		}
		p.drain()
	}
	for _, l := range []api.Limits{{}, {Depth: -1, Conj: -1, Subs: -1, Total: -1}, {Depth: 99, Conj: 99, Subs: 9999, Total: 9999}, narrow} {
		p := begun(t, config(l, 2, 2, 2, 2))
		p.submit(0, sub("a {1}"), sub("!!a {1}"), sub(deep(4)), sub(deep(32)), sub(deep(33)), sub(wide(4)), sub(wide(5)), sub(wide(64)), sub(wide(65)), sub("a {1}"), match(number("a", 1)))
		p.drain()
	}
}

// P23.1: over a new disk it is the system of the registry of nothing, by three acts, and nothing is submitted.
func TestNewDisk(t *testing.T) {
	p := newTwin(t, config(most, 2, 1, 1, 2))
	p.beginsWith(3, api.OK)
	p.ready()
	if w := p.w; w.Subs() != 0 || w.Total() != 0 || w.Next() != 1 || len(w.Changes()) != 0 || len(w.Order()) != 0 || w.Down() {
		t.Errorf("there is %d, %d, %d, %v, %v, %v", w.Subs(), w.Total(), w.Next(), w.Changes(), w.Order(), w.Down())
	}
	if one, ok := p.step(0); one != (api.Move{}) || ok || p.drain() != 0 {
		t.Errorf("Step = %v, %v", one, ok)
	}
	p.beginsWith(0, api.OK)
	p.answers(0, []api.Call{sub("a {1}"), match(number("a", 1))}, given(1), met(1))
}

// sameAsOpen holds that New and store.Open answer the same error to disks made alike, and leave them alike; it tells that error.
func sameAsOpen(t *testing.T, c api.Config, s *schema.Schema, made func() *disk.Disk) api.Errno {
	t.Helper()
	d, f := made(), made()
	w, e := flow.New(c, s, d)
	x, want := store.Open(c.Limits, s, f)
	if e != want || (w == nil) != (x == nil) || (w == nil) != (e != api.OK) {
		t.Fatalf("New = %v, %d; Open = %v, %d", w != nil, e, x != nil, want)
	}
	if d != nil && (d.Acts() != f.Acts() || d.Off() != f.Off() || filesOf(d) != filesOf(f)) {
		t.Fatalf("the disks are %s and %s", filesOf(d), filesOf(f))
	}
	if w == nil {
		return e
	}
	if w.Subs() != x.Subs() || w.Total() != x.Total() || w.Next() != x.Next() || w.Down() || len(w.Ready()) != 0 || len(w.Order()) != 0 {
		t.Fatalf("there is %d, %d, %d, %v, %v, %v", w.Subs(), w.Total(), w.Next(), w.Down(), w.Ready(), w.Order())
	}
	for i, change := range w.Changes() {
		if text, ok := x.Text(change.ID); change.Kind != api.Sub || text != change.Text || !ok || x.IDs()[i] != change.ID {
			t.Fatalf("Changes = %v", w.Changes())
		}
	}
	d.Arm(0, 0)
	f.Arm(0, 0)
	var calls []api.Call
	for _, event := range fewEvents() {
		calls = append(calls, match(event...))
	}
	calls = append(calls, sub("a {1}"), unsub(1), match(number("a", 1)))
	w.Submit(0, calls...)
	w.Drain()
	if got, want := w.Answers(0), x.Do(calls...); !sameAnswers(got, want) {
		t.Fatalf("answered is %v, not %v", got, want)
	}
	return e
}

// laid is what makes a disk with a journal of these bytes, and a file beside it that was left, if it has some.
func laid(journal, fresh []byte, lasting bool) func() *disk.Disk {
	return func() *disk.Disk {
		d := disk.New()
		d.Append("journal", journal...)
		if fresh != nil {
			d.Append("fresh", fresh...)
		}
		if lasting {
			d.Sync("journal")
		}
		return d
	}
}

// P23.1: New answers the errors of store.Open, for the same limits, schema and disk: no disk, one that is off, a journal without its head.
func TestNewErrors(t *testing.T) {
	s := attributes(t)
	good := journalOf(t, 7, subbed(1, "a {1}"), subbed(3, `c "x"*`), replaced(1, "!a {1} | b {2}"))
	for _, c := range []api.Config{{}, least, greatest, config(narrow, 3, 2, 1, 4)} {
		if e := sameAsOpen(t, c, s, func() *disk.Disk { return nil }); e != api.ErrForm {
			t.Errorf("New without a disk = %d", e)
		}
		for _, b := range [][]byte{nil, []byte("H"), good, journalOf(t, 1, unsubbed(9))} {
			off := func() *disk.Disk {
				d := laid(b, nil, true)()
				d.Crash()
				return d
			}
			if e := sameAsOpen(t, c, s, off); e != api.ErrDown {
				t.Errorf("New over a disk that is off = %d", e)
			}
		}
		for _, b := range [][]byte{nil, {0}, []byte("H"), good[:3], good[1:], []byte("Hello, world")} {
			for _, fresh := range [][]byte{nil, good} {
				if e := sameAsOpen(t, c, s, laid(b, fresh, true)); e != api.ErrHead {
					t.Errorf("New over %q = %d", b, e)
				}
			}
		}
	}
}

// P23.1: New answers the errors of store.Open where the changes don't fit the limits or the schema.
func TestNewMisfits(t *testing.T) {
	s := attributes(t)
	one := subbed(1, "a {1}")
	for _, m := range []struct {
		limits  api.Limits
		changes []api.Change
		want    api.Errno
	}{
		{most, []api.Change{subbed(1, "a {")}, api.ErrSyntax}, {most, []api.Change{replaced(1, "a")}, api.ErrSyntax},
		{narrow, []api.Change{one, subbed(2, deep(4))}, api.ErrTooDeep}, {narrow, []api.Change{one, subbed(2, "!!!c {1}")}, api.ErrTooDeep},
		{most, []api.Change{one, subbed(2, "c {1}")}, api.ErrKind}, {most, []api.Change{one, replaced(1, "z {1}")}, api.ErrKind},
		{narrow, []api.Change{subbed(1, wide(5))}, api.ErrTooWide}, {narrow, []api.Change{replaced(1, wide(5))}, api.ErrTooWide},
		{most, []api.Change{one, replaced(2, "a {1}")}, api.ErrNoSub}, {most, []api.Change{one, unsubbed(1), unsubbed(1)}, api.ErrNoSub},
		{narrow, []api.Change{one, subbed(2, "a {1}"), subbed(3, "a {1}")}, api.ErrTooMany}, {narrow, []api.Change{subbed(1, wide(3)), subbed(2, wide(3))}, api.ErrTooMany}, {narrow, []api.Change{subbed(1, wide(4)), subbed(2, wide(2)), unsubbed(1)}, api.ErrTooMany}, {api.Limits{Depth: 9, Conj: 9}, []api.Change{one}, api.ErrTooMany},
		{most, []api.Change{one, one}, api.ErrForm}, {most, []api.Change{subbed(5, "a {1}"), subbed(4, "a {1}")}, api.ErrForm}, {most, []api.Change{one, unsubbed(1), one}, api.ErrForm},
		{most, []api.Change{one, unsubbed(2), subbed(1, "a")}, api.ErrNoSub}, {most, []api.Change{one, subbed(1, "a"), unsubbed(2)}, api.ErrForm},
		{most, []api.Change{one, subbed(2, deep(32)), replaced(1, wide(64)), unsubbed(2)}, api.OK}, {narrow, []api.Change{one, subbed(9, wide(4)), unsubbed(9), subbed(11, deep(3))}, api.OK}, {most, nil, api.OK},
	} {
		for _, next := range []int{1, 40, api.MaxID + 1} {
			for _, torn := range [][]byte{nil, {0x43, 7, 1}} {
				b := append(journalOf(t, next, m.changes...), torn...)
				for _, c := range []api.Config{config(m.limits, 1, 1, 1, 1), config(m.limits, 3, 2, 2, 2), config(m.limits, 8, 16, 16, 8)} {
					if e := sameAsOpen(t, c, s, laid(b, nil, true)); e != m.want {
						t.Errorf("%v, %v: New = %d, not %d", m.limits, m.changes, e, m.want)
					}
					sameAsOpen(t, c, s, laid(b, b, false))
				}
			}
		}
	}
}

// P23.1, P7: wherever the power goes in New, it answers as store.Open does, and what is found is begun as well.
func TestNewLosesPower(t *testing.T) {
	s := attributes(t)
	whole := journalOf(t, 7, subbed(1, "a {1}"), subbed(3, `c "x"*`))
	for _, made := range []func() *disk.Disk{disk.New, laid(whole, nil, true), laid(whole, whole[:9], true), laid(append(whole, 1, 2, 3), whole, true), laid(whole, nil, false)} {
		for n := 1; n <= 6; n++ {
			for part := range 50 {
				armed := func() *disk.Disk {
					d := made()
					d.Arm(n, part)
					return d
				}
				e := sameAsOpen(t, config(most, 2, 2, 2, 2), s, armed)
				if e != api.OK && e != api.ErrDown {
					t.Fatalf("New = %d", e)
				}
				for _, choices := range [][]int{nil, {-1}, {-1, -1}, {part, part / 2}} {
					found := func() *disk.Disk {
						d := armed()
						flow.New(least, s, d)
						return d.Crash(choices...)
					}
					if e := sameAsOpen(t, least, s, found); e != api.OK && (made().Loose("journal") == 0 || e != api.ErrHead) {
						t.Fatalf("New over what is found = %d", e)
					}
				}
			}
		}
	}
}

// P23.1: over a disk that bears a registry the shards have its conjunctions; numbers go on, and nothing is submitted.
func TestNewOverRegistry(t *testing.T) {
	for shards := 1; shards <= api.MaxShards; shards++ {
		p := newTwin(t, config(most, shards, 2, 3, 2))
		var changes []api.Change
		for i, text := range texts() {
			changes = append(changes, subbed(2*i+1, text))
		}
		changes = append(changes, replaced(1, `c "x"* | !a {1}`), unsubbed(3))
		p.lay("journal", journalOf(t, 1000, changes...), true)
		p.beginsWith(0, api.OK)
		p.ready()
		if p.w.Next() != 1000 || p.w.Subs() != len(texts())-1 || p.w.Waiting(0) != 0 || len(p.w.Answers(0)) != 0 {
			t.Fatalf("Next %d, Subs %d", p.w.Next(), p.w.Subs())
		}
		p.submit(1, replace(5, "a [0, 9]"), unsub(7), sub("a {1, 3}"))
		for _, event := range fewEvents() {
			p.submit(0, match(event...))
		}
		p.drain()
		p.received(1, done, done, given(1000))
		// The same disk bears it for the next system too, which knows nothing of the first one's users.
		p.beginsWith(0, api.OK)
		p.ready()
		for _, event := range fewEvents() {
			p.submit(1, match(event...))
		}
		p.drain()
		p.answers(0, []api.Call{unsub(1000), sub("a {1}")}, done, given(1001))
	}
}

// Rule 6: two systems have nothing to do with one another.
func TestSystemsAreApart(t *testing.T) {
	p, q := begun(t, config(most, 2, 1, 1, 2)), begun(t, config(narrow, 1, 2, 2, 3))
	p.submit(0, sub("a {1}"), match(number("a", 1)))
	q.ready()
	q.submit(0, sub("a {2}"), unsub(9))
	q.stop()
	p.submit(1, match(number("a", 1)))
	q.drain()
	q.arm(1, 0)
	p.drain()
	q.received(0, given(1), code(api.ErrNoSub))
	p.received(0, given(1), met(1))
	if q.w.Tidy() != api.ErrDown || !q.w.Down() || p.w.Down() {
		t.Error("the power should have gone of the other one alone")
	}
	p.tidies(api.OK)
	p.answers(1, []api.Call{sub("a {1}")}, given(2))
}
