package journal_test

import (
	"math"
	"math/rand/v2"
	"slices"
	"testing"

	"trommel/api"
	"trommel/disk"
)

// P19.1: the chapter's first example.
func TestExampleOfANewDisk(t *testing.T) {
	p := newPair(t)
	p.finds(3, 1)
	p.ok(p.append(subbed(1, "a {1}"), subbed(2, "b {2}")))
	p.acted(4)
	p.tells(2, 32, 2)
	p.ok(p.sync())
	p.acted(5)
	p.tells(2, 32, 0)
	p.ok(p.sync())
	p.acted(5)
	p.tells(2, 32, 0)
}

// P19.1, P19.2: the second: the power goes behind 20 bytes of two records, of which the first has 13.
func TestExampleOfATornAppend(t *testing.T) {
	p := opened(t)
	p.arm(1, 20)
	p.want(p.append(subbed(1, "a {1}"), subbed(2, "b {2}")), api.ErrDown)
	p.tells(0, 6, 0)
	found := p.crash(20)
	found.finds(3, 2, subbed(1, "a {1}"))
	found.has(wholeOf(1, subbed(1, "a {1}")))
	found.tells(1, 19, 0)
	p.crash(13).finds(0, 2, subbed(1, "a {1}"))
	p.crash(12).finds(3, 1)
	p.crash().finds(0, 1)
}

// P19.1: the third: Rewrite, and the next number by it or by the change.
func TestExampleOfRewrite(t *testing.T) {
	for _, c := range []struct{ id, next int }{{1, 9}, {7, 9}, {8, 9}, {9, 10}, {10, 11}, {300, 301}} {
		p := opened(t)
		p.ok(p.rewrite(9, subbed(c.id, "a {1}")))
		p.acted(6)
		p.has(wholeOf(9, subbed(c.id, "a {1}")))
		p.finds(0, c.next, subbed(c.id, "a {1}"))
	}
}

// P19.1: Append of no changes: OK, and no act; also on a disk that is off, of which the journal hasn't heard yet.
func TestAppendNone(t *testing.T) {
	p := opened(t)
	p.ok(p.append(), p.append([]api.Change{}...))
	p.acted(3)
	p.tells(0, 6, 0)
	p.ok(p.append(unsubbed(1)), p.append())
	p.acted(4)
	p.tells(1, 6+8, 1)
	p.ok(p.sync(), p.append(), p.sync())
	p.acted(5)
	p.crash()
	p.ok(p.append(), p.append(), p.sync())
	p.want(p.append(unsubbed(0)), api.ErrForm)
	p.want(p.rewrite(0), api.ErrRange)
	p.want(p.append(unsubbed(1)), api.ErrDown)
	p.want(p.append(), api.ErrDown)
	p.tells(1, 14, 0)
}

// P19.1: of several changes all records, in one act, loose.
func TestAppendSeveral(t *testing.T) {
	row := several()
	for count := 1; count <= len(row); count++ {
		p := opened(t)
		p.ok(p.append(row[:count]...))
		p.acted(4)
		b := wholeOf(1, row[:count]...)
		p.tells(count, len(b), count)
		if got, e := p.d.Read("journal"); !slices.Equal(got, b) || e != api.OK || p.d.Loose("journal") != len(b)-6 {
			t.Fatalf("the file has % x, %d, %d of them loose", got, e, p.d.Loose("journal"))
		}
		p.ok(p.append(row...), p.append(row[0]))
		p.acted(6)
		p.tells(count+len(row)+1, len(b)+len(recordsOf(row...))+len(recordsOf(row[0])), count+len(row)+1)
		p.ok(p.sync())
		p.acted(7)
		p.tells(count+len(row)+1, len(b)+len(recordsOf(row...))+len(recordsOf(row[0])), 0)
		p.crash().finds(0, 201, slices.Concat(row[:count], row, row[:1])...)
	}
	// What the numbers are, whether they come twice, and what the texts say plays no part.
	odd := []api.Change{unsubbed(5), unsubbed(5), subbed(7, ""), subbed(7, ""), subbed(3, "a {"), replaced(api.MaxID, long(api.MaxText)), subbed(api.MaxID, long(api.MaxText))}
	p := opened(t)
	p.ok(p.append(odd...), p.sync())
	p.finds(0, api.MaxID+1, odd...)
}

// P19.1: a row of which one may not be: ErrForm, and none of them stands there; also ahead of one that is synced.
func TestAppendOfWhatMayNotBe(t *testing.T) {
	p := opened(t)
	p.ok(p.append(several()...))
	acts, bytes := p.d.Acts(), p.j.Bytes()
	for _, wrong := range wrongChanges() {
		for place := range 3 {
			row := slices.Insert([]api.Change{subbed(1, "x"), unsubbed(1)}, place, wrong)
			p.want(p.append(row...), api.ErrForm)
		}
		p.want(p.append(wrong), api.ErrForm)
	}
	p.acted(acts)
	p.tells(len(several()), bytes, len(several()))
	p.ok(p.append(unsubbed(1)), p.sync())
	p.tells(len(several())+1, bytes+8, 0)
	p.finds(0, 201, append(several(), unsubbed(1))...)
}

// P19.1: Sync with and without something pending.
func TestSync(t *testing.T) {
	p := opened(t)
	for range 3 {
		p.ok(p.sync())
	}
	p.acted(3)
	for round := range 5 {
		acts := p.d.Acts()
		for i := range round + 1 {
			p.ok(p.append(subbed(i+1, "x"), unsubbed(i+1)))
		}
		if p.j.Pending() != 2*(round+1) {
			t.Fatalf("Pending = %d", p.j.Pending())
		}
		p.ok(p.sync())
		p.acted(acts + round + 2)
		if p.j.Pending() != 0 || p.d.Loose("journal") != 0 {
			t.Fatalf("Pending %d, Loose %d", p.j.Pending(), p.d.Loose("journal"))
		}
		p.ok(p.sync(), p.sync())
		p.acted(acts + round + 2)
	}
	// Behind Open and Rewrite nothing is pending.
	p.ok(p.append(subbed(1, "x")), p.open(), p.sync())
	p.tells(31, p.j.Bytes(), 0)
	p.ok(p.append(subbed(1, "x")), p.rewrite(3, subbed(2, "y")))
	acts := p.d.Acts()
	p.ok(p.sync())
	p.acted(acts)
	p.tells(1, len(wholeOf(3, subbed(2, "y"))), 0)
}

// P19.1: Rewrite of no changes and of several, over any that were there, synced or not.
func TestRewrite(t *testing.T) {
	row := several()
	for _, next := range []int{1, 2, 128, api.MaxID, api.MaxID + 1} {
		for count := range len(row) + 1 {
			for _, state := range []func(p *pair){
				func(p *pair) {},
				func(p *pair) { p.ok(p.append(row...)) },
				func(p *pair) { p.ok(p.append(row...), p.sync()) },
				func(p *pair) { p.ok(p.append(row...), p.sync(), p.append(row[1])) },
				func(p *pair) { p.ok(p.rewrite(7, row...)) },
			} {
				p := opened(t)
				state(p)
				acts := p.d.Acts()
				p.ok(p.rewrite(next, row[:count]...))
				p.acted(acts + 3)
				b := wholeOf(next, row[:count]...)
				p.has(b)
				p.tells(count, len(b), 0)
				p.ok(p.append(row[0], row[1]))
				p.tells(count+2, len(b)+len(recordsOf(row[:2]...)), 2)
				p.ok(p.sync())
				p.finds(0, nextOf(next, slices.Concat(row[:count], row[:2])...), slices.Concat(row[:count], row[:2])...)
			}
		}
	}
}

// P19.1: Rewrite with a number out of its range, and with a change that may not be; the number is looked at first.
func TestRewriteRefused(t *testing.T) {
	p := opened(t)
	p.ok(p.append(several()...))
	acts, bytes := p.d.Acts(), p.j.Bytes()
	for _, next := range []int{0, -1, api.MaxID + 2, math.MinInt, math.MaxInt, -api.MaxID, 1 << 42} {
		p.want(p.rewrite(next), api.ErrRange)
		p.want(p.rewrite(next, several()...), api.ErrRange)
		p.want(p.rewrite(next, api.Change{}), api.ErrRange)
	}
	for _, next := range []int{1, 9, api.MaxID + 1} {
		for _, wrong := range wrongChanges() {
			p.want(p.rewrite(next, wrong), api.ErrForm)
			p.want(p.rewrite(next, append(several(), wrong)...), api.ErrForm)
			p.want(p.rewrite(next, append([]api.Change{wrong}, several()...)...), api.ErrForm)
		}
	}
	p.acted(acts)
	p.tells(len(several()), bytes, len(several()))
	p.ok(p.sync(), p.append(unsubbed(7)))
	p.tells(len(several())+1, bytes+8, 1)
	p.ok(p.rewrite(1), p.rewrite(api.MaxID+1))
	p.tells(0, len(headOf(api.MaxID+1)), 0)
}

// refusedCalls does each call, right ones and wrong ones, and holds that all answer this error.
func (p *pair) refusedCalls(want api.Errno) {
	p.t.Helper()
	for range 2 {
		p.want(p.append(), want)
		p.want(p.append(several()...), want)
		p.want(p.append(api.Change{}), want)
		p.want(p.sync(), want)
		p.want(p.rewrite(0), want)
		p.want(p.rewrite(1), want)
		p.want(p.rewrite(1, api.Change{}), want)
		p.want(p.rewrite(9, several()...), want)
	}
}

// P19.1: behind a call to which the disk answered an error each one answers that, and nothing is done; Count, Bytes and Pending tell what they told.
func TestDown(t *testing.T) {
	row := several()
	calls := []struct {
		acts int
		call func(p *pair) api.Errno
	}{
		{1, func(p *pair) api.Errno { return p.append(row[:3]...) }},
		{1, func(p *pair) api.Errno { return p.sync() }},
		{3, func(p *pair) api.Errno { return p.rewrite(9, row...) }},
		{3, func(p *pair) api.Errno { return p.rewrite(9) }},
	}
	for _, c := range calls {
		for n := 1; n <= c.acts; n++ {
			for _, part := range []int{-1, 0, 1, 5, 6, 13, 21, 22, 1000} {
				p := opened(t)
				p.ok(p.append(row[0]), p.sync(), p.append(row[1], row[2]))
				p.arm(n, part)
				p.want(c.call(p), api.ErrDown)
				p.acted(5 + n)
				p.tells(3, len(wholeOf(1, row[:3]...)), 2)
				p.refusedCalls(api.ErrDown)
				p.tells(3, len(wholeOf(1, row[:3]...)), 2)
				for _, choices := range [][]int{nil, {-1, -1}, {0, -1}, {-1}, {3, 9}, {9, 3}} {
					p.crash(choices...).open()
				}
			}
		}
	}
	// A disk that went off by a crash is told by the first act alone.
	p := opened(t)
	p.ok(p.append(row[0]))
	p.crash()
	p.ok(p.append())
	p.want(p.sync(), api.ErrDown)
	p.refusedCalls(api.ErrDown)
	p.tells(1, len(wholeOf(1, row[0])), 1)
}

// P19.1: so it is with another error of the disk, though that is on.
func TestDownByAnotherError(t *testing.T) {
	p := opened(t)
	p.ok(p.append(unsubbed(1)))
	p.act(func(d *disk.Disk) api.Errno { return d.Remove("journal") })
	p.want(p.sync(), api.ErrFile)
	p.refusedCalls(api.ErrFile)
	p.tells(1, 14, 1)
	p.act(func(d *disk.Disk) api.Errno { return d.Append("journal", headOf(3)...) })
	p.refusedCalls(api.ErrFile)
	p.finds(3, 3)
	p.ok(p.append(unsubbed(1)), p.sync())
}

// P19.1: errors that aren't the disk's don't stay.
func TestOwnErrorsDontStay(t *testing.T) {
	p := opened(t)
	p.want(p.append(api.Change{}), api.ErrForm)
	p.ok(p.append(), p.sync())
	p.want(p.rewrite(0), api.ErrRange)
	p.ok(p.append(unsubbed(1)))
	p.want(p.rewrite(1, api.Change{}), api.ErrForm)
	p.ok(p.sync(), p.rewrite(2, unsubbed(9)))
	p.finds(0, 2, unsubbed(9))
}

// Rule 6: journals on disks of their own have nothing to do with one another; on one disk each tells of itself.
func TestSeveralJournals(t *testing.T) {
	p, q := opened(t), opened(t)
	p.ok(p.append(several()...), p.sync())
	q.hold()
	q.tells(0, 6, 0)
	q.arm(1, 0)
	q.want(q.append(unsubbed(1)), api.ErrDown)
	p.ok(p.append(unsubbed(1)), p.sync(), p.rewrite(9))

	one := opened(t)
	one.ok(one.append(subbed(1, "x")), one.sync())
	two := &pair{t: t, d: one.d, wd: one.wd}
	two.finds(0, 2, subbed(1, "x"))
	two.ok(two.append(subbed(2, "y")))
	two.tells(2, 6+9+9, 1)
	one.tells(1, 6+9, 0)
	one.ok(one.sync())
	two.tells(2, 6+9+9, 1)
	two.ok(two.sync())
	two.finds(0, 3, subbed(1, "x"), subbed(2, "y"))
}

// P19.1: rows of calls by chance, right and wrong ones, with power that goes now and then.
func TestByChance(t *testing.T) {
	chance := rand.New(rand.NewPCG(19, 2))
	down := 0
	for range 1500 {
		p := newPair(t)
		if chance.IntN(3) == 0 {
			p.lay("journal", someFile(chance), 0)
		}
		for range 3 {
			if chance.IntN(2) == 0 {
				p.arm(1+chance.IntN(20), chance.IntN(120))
			}
			if p.open() == api.ErrHead {
				break
			}
			for range 12 {
				if p.j != nil {
					p.someCall(chance)
				}
			}
			if p.d.Off() {
				down++
			}
			p = p.crash(chance.IntN(100), chance.IntN(100))
		}
	}
	if down < 300 {
		t.Errorf("the power went %d times only", down)
	}
}

// someCall does one.
func (p *pair) someCall(chance *rand.Rand) api.Errno {
	p.t.Helper()
	switch chance.IntN(12) {
	case 0, 1:
		return p.rewrite(1+chance.IntN(1<<chance.IntN(42)), someChanges(chance)...)
	case 2:
		return p.rewrite([]int{0, -1, 1, api.MaxID + 1, api.MaxID + 2}[chance.IntN(5)], someChanges(chance)...)
	case 3, 4, 5:
		return p.sync()
	case 6:
		return p.open()
	}
	return p.append(someChanges(chance)...)
}
