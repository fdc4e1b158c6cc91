package disk_test

import (
	"math"
	"slices"
	"testing"

	"trommel/api"
)

// P18.1: the chapter's second example.
func TestArmExample(t *testing.T) {
	p := newPair(t)
	p.ok(p.arm(2, 1), p.append("a", 1))
	p.want(p.append("b", 7, 8), api.ErrDown)
	p.counted(1, true)
	found := p.crash(1, 1)
	found.has("a", 0, 1)
	found.has("b", 0, 7)
	found = p.crash()
	found.named("a", "b")
	found.has("a", 0)
	found.has("b", 0)
}

// P18.1: none is named by 0 and below, and what was named is forgotten then.
func TestArmNone(t *testing.T) {
	for _, n := range []int{0, -1, -2, math.MinInt} {
		for _, part := range []int{0, 1, -1} {
			p := newPair(t)
			p.ok(p.arm(n, part))
			for range 5 {
				p.ok(p.append("a", 1, 2), p.sync("a"), p.rename("a", "b"), p.remove("b"))
			}
			p.ok(p.arm(1, 1), p.arm(n, part))
			p.ok(p.append("a", 1), p.append("a", 2))
			p.ok(p.arm(2, 1), p.append("a", 3), p.arm(n, part), p.append("a", 4), p.append("a", 5), p.append("a", 6))
			p.counted(26, false)
			p.has("a", 6, 1, 2, 3, 4, 5, 6)
		}
	}
}

// P18.1: the n-th act from now on, whatever it is, is named; those ahead of it are done.
func TestArmSeveral(t *testing.T) {
	acts := []func(p *pair) api.Errno{
		func(p *pair) api.Errno { return p.append("a", 1, 2, 3) },
		func(p *pair) api.Errno { return p.sync("a") },
		func(p *pair) api.Errno { return p.append("b", 4, 5) },
		func(p *pair) api.Errno { return p.append("a") },
		func(p *pair) api.Errno { return p.rename("b", "c") },
		func(p *pair) api.Errno { return p.append("a", 6) },
		func(p *pair) api.Errno { return p.rename("a", "c") },
		func(p *pair) api.Errno { return p.rename("c", "c") },
		func(p *pair) api.Errno { return p.sync("c") },
		func(p *pair) api.Errno { return p.remove("c") },
	}
	for ahead := range len(acts) {
		for n := 1; n <= len(acts)-ahead; n++ {
			for part := -1; part < 5; part++ {
				p := newPair(t)
				for i, act := range acts {
					if i == ahead {
						p.ok(p.arm(n, part))
					}
					switch got := act(p); {
					case i < ahead+n-1 && got != api.OK, i >= ahead+n-1 && got != api.ErrDown:
						t.Fatalf("armed with %d ahead of act %d, act %d answers %d", n, ahead, i, got)
					}
				}
				p.counted(ahead+n-1, true)
				for choice := -1; choice < 6; choice++ {
					p.crash(choice, choice)
					p.crash(0, choice)
				}
			}
		}
	}
	p := newPair(t)
	p.ok(p.arm(math.MaxInt, math.MaxInt))
	for _, act := range acts {
		p.ok(act(p))
	}
}

// P18.1: how much of an Append is done when the power goes at it: part below 0, 0, some, all, above.
func TestPart(t *testing.T) {
	data := []byte{5, 6, 7, 8}
	for _, c := range []struct{ part, done int }{
		{math.MinInt, 0}, {-2, 0}, {-1, 0}, {0, 0}, {1, 1}, {2, 2}, {3, 3}, {4, 4}, {5, 4}, {1000, 4}, {math.MaxInt, 4},
	} {
		// To a file that is there, and to a new one.
		p := newPair(t)
		p.ok(p.append("a", 1, 2), p.sync("a"), p.append("a", 3), p.arm(1, c.part))
		p.want(p.append("a", data...), api.ErrDown)
		p.counted(3, true)
		p.crash(-1).has("a", 0, slices.Concat([]byte{1, 2, 3}, data[:c.done])...)
		p.crash(1).has("a", 0, 1, 2, 3)
		p.crash().has("a", 0, 1, 2)

		p = newPair(t)
		p.ok(p.arm(1, c.part))
		p.want(p.append("a", data...), api.ErrDown)
		p.counted(0, true)
		p.crash(-1).has("a", 0, data[:c.done]...)
		p.crash().has("a", 0)
		p.crash().named("a")

		// Of no bytes: the file is made all the same.
		p = newPair(t)
		p.ok(p.arm(1, c.part))
		p.want(p.append("a"), api.ErrDown)
		p.crash(-1).has("a", 0)

		// Of another act nothing is done, whatever part is.
		p = newPair(t)
		p.ok(p.append("a", 1), p.append("b", 2), p.sync("b"), p.arm(1, c.part))
		p.want(p.sync("a"), api.ErrDown)
		p.crash().has("a", 0)
		p.crash(1).has("a", 0, 1)
		p = newPair(t)
		p.ok(p.append("a", 1), p.append("b", 2), p.sync("b"), p.arm(1, c.part))
		p.want(p.rename("a", "b"), api.ErrDown)
		p.crash(1).has("a", 0, 1)
		p.crash(1).has("b", 0, 2)
		p = newPair(t)
		p.ok(p.append("a", 1), p.append("b", 2), p.sync("b"), p.arm(1, c.part))
		p.want(p.remove("b"), api.ErrDown)
		p.crash().named("a", "b")
		p.crash().has("b", 0, 2)
		p = newPair(t)
		p.ok(p.append("a", 1), p.arm(1, c.part))
		p.want(p.rename("a", "a"), api.ErrDown)
		p.counted(1, true)
		p.crash(1).has("a", 0, 1)
	}
}

// P18.1: an Arm forgets what the one ahead of it named, and counts from itself on.
func TestArmTwice(t *testing.T) {
	p := newPair(t)
	p.ok(p.arm(1, 0), p.arm(3, 1))
	p.ok(p.append("a", 1, 2), p.append("a", 3, 4))
	p.ok(p.arm(2, 1), p.append("a", 5, 6))
	p.want(p.append("a", 7, 8), api.ErrDown)
	p.counted(3, true)
	p.crash(-1).has("a", 0, 1, 2, 3, 4, 5, 6, 7)

	p = newPair(t)
	p.ok(p.arm(2, 2), p.append("a", 1, 2), p.arm(1, 1))
	p.want(p.append("a", 3, 4), api.ErrDown)
	p.crash(-1).has("a", 0, 1, 2, 3)
	p.want(p.arm(1, 1), api.ErrDown)
	p.want(p.arm(0, 0), api.ErrDown)
	p.counted(1, true)
}

// P18.1: an act with an error of its own isn't counted by Arm, nor at the named one's turn; nor are calls that are no acts.
func TestArmPassesErrors(t *testing.T) {
	p := newPair(t)
	p.ok(p.append("a", 1), p.arm(2, 1))
	idle := func() {
		t.Helper()
		for range 3 {
			p.want(p.append("A", 9), api.ErrForm)
			p.want(p.sync("c"), api.ErrFile)
			p.want(p.sync("C"), api.ErrForm)
			p.want(p.rename("c", "a"), api.ErrFile)
			p.want(p.rename("a", "C"), api.ErrForm)
			p.want(p.remove("c"), api.ErrFile)
			p.want(p.remove(""), api.ErrForm)
			p.d.Read("a")
			p.d.Loose("a")
			p.d.Names()
			p.d.Acts()
			p.d.Off()
		}
		p.hold()
	}
	idle()
	p.counted(1, false)
	p.ok(p.sync("a"))
	idle()
	p.counted(2, false)
	p.want(p.append("a", 2, 3), api.ErrDown)
	p.counted(2, true)
	p.crash(-1).has("a", 0, 1, 2)
}

// P18.1: what is done is counted, on a disk that is on, and still told when it is off; refused acts and the named one aren't.
func TestActs(t *testing.T) {
	p := newPair(t)
	p.ok(p.append("a", 1))
	p.counted(1, false)
	p.ok(p.append("a"))
	p.counted(2, false)
	p.ok(p.sync("a"), p.sync("a"))
	p.counted(4, false)
	p.ok(p.rename("a", "a"), p.rename("a", "b"))
	p.counted(6, false)
	p.ok(p.remove("b"))
	p.counted(7, false)
	p.want(p.remove("b"), api.ErrFile)
	p.want(p.append("", 1), api.ErrForm)
	p.counted(7, false)
	p.ok(p.arm(1, 9))
	p.want(p.append("b", 1), api.ErrDown)
	p.counted(7, true)
	p.want(p.append("b", 1), api.ErrDown)
	p.counted(7, true)
	found := p.crash()
	p.counted(7, true)
	found.counted(0, false)
	found.ok(found.append("b", 1), found.sync("b"))
	found.counted(2, false)
	p.counted(7, true)
}
