package journal_test

import (
	"bytes"
	"math"
	"math/rand/v2"
	"slices"
	"testing"

	"trommel/api"
	"trommel/disk"
	"trommel/journal"
)

// P19.1: of no disk, and of one that is off: an error, and nothing else.
func TestOpenOfNoDisk(t *testing.T) {
	j, next, changes, e := journal.Open(nil)
	if j != nil || next != 0 || len(changes) != 0 || e != api.ErrForm {
		t.Errorf("Open(nil) = %v, %d, %v, %d", j, next, changes, e)
	}
}

// P19.1: whatever the disk has, and however it came to be off.
func TestOpenOfADiskThatIsOff(t *testing.T) {
	lay := []func(p *pair){
		func(p *pair) {},
		func(p *pair) { p.lay("fresh", []byte{1, 2}, 1) },
		func(p *pair) { p.lay("journal", []byte{1, 2}, 0) },
		func(p *pair) { p.lay("journal", wholeOf(7, several()...), 3) },
		func(p *pair) { p.open(); p.append(subbed(1, "x")) },
	}
	for _, some := range lay {
		p := newPair(t)
		some(p)
		found := p.crash(-1, -1)
		p.j, p.w = nil, nil
		p.refuses(0, api.ErrDown)
		p.refuses(0, api.ErrDown)

		found.arm(1, 0)
		found.act(func(d *disk.Disk) api.Errno { return d.Append("other", 1) })
		found.refuses(0, api.ErrDown)
		if !found.d.Off() {
			t.Error("the disk is on")
		}
	}
}

// P19.1: of a new disk: written anew with 1 and no changes.
func TestOpenOfANewDisk(t *testing.T) {
	p := newPair(t)
	p.finds(3, 1)
	p.has(headOf(1))
	p.tells(0, 6, 0)
	p.finds(0, 1)
	p.tells(0, 6, 0)
}

// P19.1: other files are nobody's business.
func TestOpenBesideOtherFiles(t *testing.T) {
	p := newPair(t)
	for _, name := range []string{"a", "fresh0", "fres", "journal_", "journa", "old", "z"} {
		p.lay(name, wholeOf(9, several()...), 5)
	}
	names := p.d.Names()
	p.finds(3, 1)
	p.ok(p.append(subbed(1, "x")), p.sync(), p.rewrite(5), p.open())
	if !slices.Equal(p.d.Names(), slices.Sorted(slices.Values(append(names, "journal")))) {
		t.Errorf("Names = %q", p.d.Names())
	}
}

// P19.1: a file fresh goes, whatever it has, and nothing of it is taken.
func TestOpenWithFresh(t *testing.T) {
	row := several()
	for _, left := range [][]byte{nil, {1}, {0x48}, headOf(5), headOf(5)[:5], wholeOf(77, row...), wholeOf(77, row...)[:20]} {
		for loose := range len(left) + 1 {
			// Alone.
			p := newPair(t)
			p.lay("fresh", left, loose)
			p.finds(4, 1)
			p.has(headOf(1))
			p.tells(0, 6, 0)
			p.finds(0, 1)

			// Beside a journal that stays as it is.
			p = newPair(t)
			p.lay("fresh", left, loose)
			p.lay("journal", wholeOf(3, row...), 0)
			p.finds(1, 201, row...)
			p.has(wholeOf(3, row...))
			p.tells(len(row), len(wholeOf(3, row...)), 0)
			p.finds(0, 201, row...)

			// Beside one that is written anew.
			p = newPair(t)
			p.lay("fresh", left, loose)
			p.lay("journal", append(wholeOf(3, row...), 7), 0)
			p.finds(4, 201, row...)
			p.has(wholeOf(3, row...))
			p.finds(0, 201, row...)

			// Beside one that has no head: fresh is gone all the same.
			p = newPair(t)
			p.lay("fresh", left, loose)
			p.lay("journal", []byte{1, 2, 3}, 0)
			p.refuses(1, api.ErrHead)
			p.has([]byte{1, 2, 3})
			p.refuses(0, api.ErrHead)
		}
	}
}

// P19.1: a journal without a head is refused and left as it is, loose bytes too.
func TestOpenWithoutHead(t *testing.T) {
	records := recordsOf(several()...)
	turned := wholeOf(3, several()...)
	turned[4] ^= 1
	for _, b := range [][]byte{nil, {0}, {0x48}, {1, 2, 3}, records, headOf(1)[1:], append([]byte{0}, wholeOf(1)...), append(recordsOf(unsubbed(1)), headOf(1)...), append(headOf(0), records...), append(headOf(api.MaxID+2), records...), append(headOf(math.MaxInt), records...), turned} {
		for _, loose := range []int{0, 1, len(b) / 2, len(b)} {
			p := newPair(t)
			p.lay("journal", b, min(loose, len(b)))
			p.refuses(0, api.ErrHead)
			p.refuses(0, api.ErrHead)
			if got, e := p.d.Read("journal"); !bytes.Equal(got, b) || e != api.OK || p.d.Loose("journal") != min(loose, len(b)) {
				t.Fatalf("the file has % x now, %d of them loose", got, p.d.Loose("journal"))
			}
		}
	}
}

// P19.1: a head alone, and a head and records, all of them lasting: no act.
func TestOpenOfAWholeJournal(t *testing.T) {
	row := several()
	for _, next := range []int{1, 2, 127, 128, 16384, api.MaxID, api.MaxID + 1} {
		for count := range len(row) + 1 {
			p := newPair(t)
			b := wholeOf(next, row[:count]...)
			p.lay("journal", b, 0)
			p.finds(0, nextOf(next, row[:count]...), row[:count]...)
			p.has(b)
			p.tells(count, len(b), 0)
		}
	}
}

// P19.1: the next number: the head's, or a Sub's and one more; what others have plays no part.
func TestNextNumber(t *testing.T) {
	for _, c := range []struct {
		head, next int
		changes    []api.Change
	}{
		{1, 1, nil}, {9, 9, nil}, {api.MaxID, api.MaxID, nil}, {api.MaxID + 1, api.MaxID + 1, nil},
		{1, 2, []api.Change{subbed(1, "")}}, {2, 2, []api.Change{subbed(1, "")}}, {3, 3, []api.Change{subbed(1, "")}},
		{5, 5, []api.Change{subbed(4, "x")}}, {5, 6, []api.Change{subbed(5, "x")}}, {5, 7, []api.Change{subbed(6, "x")}},
		{1, 10, []api.Change{subbed(9, ""), subbed(4, ""), subbed(1, "")}}, {1, 10, []api.Change{subbed(4, ""), subbed(9, ""), subbed(1, "")}}, {1, 10, []api.Change{subbed(1, ""), subbed(4, ""), subbed(9, "")}},
		{1, 1, []api.Change{replaced(50, "x"), unsubbed(60)}}, {1, 1, []api.Change{replaced(api.MaxID, ""), unsubbed(api.MaxID)}},
		{1, 3, []api.Change{subbed(2, "x"), replaced(50, "x"), unsubbed(60), unsubbed(2)}}, {20, 20, []api.Change{unsubbed(60), subbed(2, "x"), replaced(50, "x")}},
		{1, api.MaxID + 1, []api.Change{subbed(api.MaxID, "x")}}, {1, api.MaxID + 1, []api.Change{subbed(api.MaxID, "x"), unsubbed(api.MaxID)}}, {api.MaxID + 1, api.MaxID + 1, []api.Change{subbed(api.MaxID, "")}},
		{api.MaxID, api.MaxID, []api.Change{subbed(api.MaxID-1, "x")}}, {api.MaxID - 1, api.MaxID, []api.Change{subbed(api.MaxID-1, "x")}},
	} {
		b := wholeOf(c.head, c.changes...)
		p := newPair(t)
		p.lay("journal", b, 0)
		p.finds(0, c.next, c.changes...)

		// Written anew it keeps the head's own number.
		p = newPair(t)
		p.lay("journal", append(b, 0), 0)
		p.finds(3, c.next, c.changes...)
		p.has(b)
		p.finds(0, c.next, c.changes...)

		// So it is by Rewrite.
		p = opened(t)
		p.ok(p.rewrite(c.head, c.changes...))
		p.has(b)
		p.finds(0, c.next, c.changes...)
	}
}

// others are bytes that are no record's, whatever stands behind.
func others() [][]byte {
	return [][]byte{
		{0}, {0x43}, {0x48}, {0xff}, {0x43, 0}, headOf(1), wholeOf(9, several()...), recordsOf(api.Change{Kind: api.Match, ID: 1}), recordsOf(subbed(0, "x")), recordsOf(subbed(1, long(api.MaxText+1))),
		recordsOf(api.Change{Kind: api.Unsub, ID: 1, Text: "x"}), recordsOf(unsubbed(9))[1:], recordsOf(unsubbed(9))[:7], bytes.Repeat([]byte{0xff}, 30), make([]byte, 8),
	}
}

// P19.1: something else behind the last record: it is cut, and what stands behind it too.
func TestOpenOfSomethingElse(t *testing.T) {
	row := several()
	for _, other := range others() {
		for count := range len(row) + 1 {
			b := wholeOf(77, row[:count]...)
			for _, behind := range [][]byte{nil, recordsOf(row[count:]...)} {
				for _, loose := range []int{0, 1} {
					p := newPair(t)
					p.lay("journal", slices.Concat(b, other, behind), loose)
					p.finds(3, nextOf(77, row[:count]...), row[:count]...)
					p.has(b)
					p.tells(count, len(b), 0)
					p.finds(0, nextOf(77, row[:count]...), row[:count]...)
				}
			}
		}
	}
}

// wholeIn is how many of the changes behind a head are whole in the first bytes.
func wholeIn(cut, next int, row []api.Change) int {
	count := 0
	for count < len(row) && len(wholeOf(next, row[:count+1]...)) <= cut {
		count++
	}
	return count
}

// P19.1: every beginning of a head and records.
func TestOpenOfBeginnings(t *testing.T) {
	for _, next := range []int{1, 300, api.MaxID + 1} {
		row := several()
		b := wholeOf(next, row...)
		for cut := range len(b) + 1 {
			p := newPair(t)
			p.lay("journal", b[:cut], 0)
			if cut < len(headOf(next)) {
				p.refuses(0, api.ErrHead)
				continue
			}
			count := wholeIn(cut, next, row)
			want := wholeOf(next, row[:count]...)
			acts := 0
			if len(want) < cut {
				acts = 3
			}
			p.finds(acts, nextOf(next, row[:count]...), row[:count]...)
			p.has(want)
			p.tells(count, len(want), 0)
			p.finds(0, nextOf(next, row[:count]...), row[:count]...)
		}
	}
}

// P19.1: loose bytes behind or among whole records, or in the head: all that is whole is taken, and written anew.
func TestOpenWithLooseBytes(t *testing.T) {
	row := []api.Change{subbed(1, "a {1}"), unsubbed(300), replaced(127, "")}
	b := wholeOf(5, row...)
	for cut := len(headOf(5)); cut <= len(b); cut++ {
		count := wholeIn(cut, 5, row)
		want := wholeOf(5, row[:count]...)
		for loose := range cut + 1 {
			p := newPair(t)
			p.lay("journal", b[:cut], loose)
			acts := 3
			if loose == 0 && len(want) == cut {
				acts = 0
			}
			p.finds(acts, 5, row[:count]...)
			p.has(want)
			p.finds(0, 5, row[:count]...)
			// What was loose lasts now.
			p.crash().finds(0, 5, row[:count]...)
		}
	}
}

// P19.1: the power goes at each act of Open, with every part of an Append: what the disk has then tells which acts were done, in which order.
func TestOpenWithoutPower(t *testing.T) {
	row := []api.Change{subbed(1, "a {1}"), unsubbed(300)}
	for _, c := range []struct {
		acts int
		lay  func(p *pair)
	}{
		{3, func(p *pair) {}},
		{4, func(p *pair) { p.lay("fresh", wholeOf(9, row...), 0) }},
		{1, func(p *pair) { p.lay("fresh", []byte{1, 2}, 1); p.lay("journal", wholeOf(3, row...), 0) }},
		{1, func(p *pair) { p.lay("fresh", []byte{1, 2}, 1); p.lay("journal", []byte{1, 2, 3}, 1) }},
		{0, func(p *pair) { p.lay("journal", wholeOf(3, row...), 0) }},
		{0, func(p *pair) { p.lay("journal", []byte{1, 2, 3}, 0) }},
		{3, func(p *pair) { p.lay("journal", wholeOf(3, row...), 1) }},
		{3, func(p *pair) { p.lay("journal", wholeOf(3, row...), len(wholeOf(3, row...))) }},
		{3, func(p *pair) { p.lay("journal", append(wholeOf(3, row...), 0x43, 9), 0) }},
		{4, func(p *pair) {
			p.lay("fresh", []byte{1, 2}, 1)
			p.lay("journal", append(wholeOf(3, row...), 0x43, 9), 2)
		}},
	} {
		for n := 1; n <= c.acts+1; n++ {
			for part := -1; part <= len(wholeOf(3, row...))+1; part++ {
				p := newPair(t)
				c.lay(p)
				before := p.d.Acts()
				p.arm(n, part)
				e := p.open()
				if n > c.acts {
					if p.d.Off() || p.d.Acts() != before+c.acts || e == api.ErrDown {
						t.Fatalf("Open = %d, with %d acts", e, p.d.Acts()-before)
					}
					break
				}
				if e != api.ErrDown || !p.d.Off() || p.d.Acts() != before+n-1 {
					t.Fatalf("Open = %d, with %d acts", e, p.d.Acts()-before)
				}
				p.refuses(0, api.ErrDown)
				for _, choices := range [][]int{nil, {1}, {-1}, {-1, -1}, {0, 1}, {0, -1}, {5, 2}, {part, part}} {
					found := p.crash(choices...)
					found.open()
					found.open()
				}
			}
		}
	}
}

// P19.3: what Open answers it answers again, with no further act; errors too.
func TestOpenTwice(t *testing.T) {
	chance := rand.New(rand.NewPCG(19, 1))
	for range 3000 {
		p := newPair(t)
		if chance.IntN(3) == 0 {
			b := someFile(chance)
			p.lay("fresh", b, chance.IntN(len(b)+1))
		}
		if chance.IntN(8) > 0 {
			b := someFile(chance)
			p.lay("journal", b, chance.IntN(len(b)+1)*chance.IntN(2))
		}
		next, changes, e := p.openFor()
		acts := p.d.Acts()
		for range 3 {
			next2, changes2, e2 := p.openFor()
			if next2 != next || !slices.Equal(changes2, changes) || e2 != e || p.d.Acts() != acts {
				t.Fatalf("Open = %d, %v, %d, then %d, %v, %d, with %d acts", next, changes, e, next2, changes2, e2, p.d.Acts()-acts)
			}
		}
		found := p.crash(chance.IntN(100), chance.IntN(100))
		next2, changes2, e2 := found.openFor()
		if e == api.OK && (next2 != next || !slices.Equal(changes2, changes) || e2 != e || found.d.Acts() != 0) {
			t.Fatalf("behind a crash Open = %d, %v, %d, not %d, %v, %d", next2, changes2, e2, next, changes, e)
		}
	}
}

// someFile is mostly a journal's bytes, or a beginning of them, or something that was done to them.
func someFile(chance *rand.Rand) []byte {
	var row []api.Change
	for range chance.IntN(5) {
		row = append(row, someChange(chance))
	}
	b := wholeOf(1+chance.IntN(1<<chance.IntN(41)), row...)
	at := chance.IntN(len(b))
	switch chance.IntN(6) {
	case 0:
		return b[:at]
	case 1:
		b[at] ^= 1 << chance.IntN(8)
	case 2:
		return append(b, others()[chance.IntN(len(others()))]...)
	case 3:
		return slices.Delete(b, at, at+1)
	}
	return b
}

// P19.3: of a journal that was appended to and not synced Open writes anew once, and then no more.
func TestOpenAgain(t *testing.T) {
	row := several()
	p := opened(t)
	p.ok(p.append(row[:2]...))
	p.finds(3, 2, row[:2]...)
	p.finds(0, 2, row[:2]...)
	p.ok(p.append(row[2:4]...), p.sync())
	p.finds(0, 129, row[:4]...)
	p.ok(p.append())
	p.finds(0, 129, row[:4]...)
	p.ok(p.rewrite(7, row[4]))
	p.finds(0, 7, row[4])
	p.tells(1, len(wholeOf(7, row[4])), 0)
}
