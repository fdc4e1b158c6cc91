package disk_test

import (
	"math"
	"math/rand/v2"
	"slices"
	"testing"

	"trommel/api"
	"trommel/record"
)

// P18.1: choices are handed out by rising names: none, fewer than files, as many, more.
func TestChoices(t *testing.T) {
	p := newPair(t)
	p.ok(p.append("c", 1, 2, 3), p.append("a", 4), p.sync("a"), p.append("a", 5, 6), p.append("b", 7), p.sync("b"), p.append("ab", 8, 9))
	for _, c := range []struct {
		choices     []int
		a, ab, b, c []byte
	}{
		{nil, []byte{4}, nil, []byte{7}, nil},
		{[]int{}, []byte{4}, nil, []byte{7}, nil},
		{[]int{1}, []byte{4, 5}, nil, []byte{7}, nil},
		{[]int{2, 1}, []byte{4, 5, 6}, []byte{8}, []byte{7}, nil},
		{[]int{3, 2, 5}, []byte{4}, []byte{8, 9}, []byte{7}, nil},
		{[]int{0, 0, 1, 3}, []byte{4}, nil, []byte{7}, []byte{1, 2, 3}},
		{[]int{-1, -2, -3, -4}, []byte{4, 5, 6}, []byte{8}, []byte{7}, nil},
		{[]int{1, 1, 1, 1, 1, 1, 1}, []byte{4, 5}, []byte{8}, []byte{7}, []byte{1}},
		{[]int{0, 0, 0, 0, 2, 2}, []byte{4}, nil, []byte{7}, nil},
	} {
		found := p.crash(c.choices...)
		found.named("a", "ab", "b", "c")
		found.has("a", 0, c.a...)
		found.has("ab", 0, c.ab...)
		found.has("b", 0, c.b...)
		found.has("c", 0, c.c...)
		found.counted(0, false)
	}
}

// P18.1: negative and great choices, modulo how many loose bytes there are and one more.
func TestModulo(t *testing.T) {
	for loose := range 7 {
		p := newPair(t)
		p.ok(p.append("a", 90, 91), p.sync("a"))
		whole := []byte{90, 91}
		for i := range loose {
			whole = append(whole, byte(i))
			p.ok(p.append("a", byte(i)))
		}
		for choice := -3*loose - 5; choice < 3*loose+5; choice++ {
			// Step by step from 0 on, round and round.
			kept := 0
			for range max(choice, -choice) {
				if choice > 0 {
					kept++
				} else {
					kept--
				}
				if kept > loose {
					kept = 0
				}
				if kept < 0 {
					kept = loose
				}
			}
			p.crash(choice).has("a", 0, whole[:2+kept]...)
		}
		for _, choice := range []int{math.MaxInt, math.MaxInt - 1, math.MaxInt - 2, math.MinInt, math.MinInt + 1, math.MinInt + 2, 1 << 32, -1 << 32, 1 << 62} {
			p.crash(choice)
		}
	}
	// 2^63 - 1 is 7 times something, -2^63 differs from 6 by 7 times something.
	p := newPair(t)
	p.ok(p.append("a", 1, 2, 3, 4, 5, 6))
	p.crash(math.MaxInt).has("a", 0)
	p.crash(math.MaxInt-1).has("a", 0, 1, 2, 3, 4, 5, 6)
	p.crash(math.MinInt).has("a", 0, 1, 2, 3, 4, 5, 6)
	p.crash(math.MinInt+1).has("a", 0)
}

// P18.2: what was synced is there behind every crash, and each beginning of the loose bytes by some choice, of each file by itself.
func TestEveryBeginning(t *testing.T) {
	p := newPair(t)
	p.ok(p.append("a", 1, 2), p.sync("a"), p.append("a", 3, 4), p.append("a", 5), p.append("b", 6, 7), p.append("c", 8, 9), p.sync("c"))
	seen := map[string]int{}
	for first := -9; first < 9; first++ {
		for second := -9; second < 9; second++ {
			found := p.crash(first, second)
			a, _ := found.d.Read("a")
			b, _ := found.d.Read("b")
			if len(a) < 2 || !slices.Equal(a, []byte{1, 2, 3, 4, 5}[:len(a)]) || !slices.Equal(b, []byte{6, 7}[:len(b)]) {
				t.Fatalf("found are % x and % x", a, b)
			}
			found.has("c", 0, 8, 9)
			seen[string(a)+"/"+string(b)]++
		}
	}
	if len(seen) != 4*3 {
		t.Errorf("found were %d, not 12", len(seen))
	}
}

// P18.1: Crash may be asked again, each time a disk of its own, whatever was done to those that were found.
func TestCrashAgain(t *testing.T) {
	p := newPair(t)
	p.ok(p.append("a", 1), p.sync("a"), p.append("a", 2, 3), p.append("b", 4, 5))
	first, second := p.crash(1, 1), p.crash(1, 1)
	if first.d == second.d || first.d == p.d {
		t.Fatal("two disks are one")
	}
	first.ok(first.append("a", 9), first.sync("a"), first.remove("b"), first.append("c", 8))
	second.has("a", 0, 1, 2)
	second.has("b", 0, 4)
	second.ok(second.append("a", 7, 7, 7), second.rename("a", "b"))
	first.has("a", 0, 1, 2, 9)
	first.named("a", "c")
	third := p.crash(2, 2)
	third.has("a", 0, 1, 2, 3)
	third.has("b", 0, 4, 5)
	third.crash(1, 1).has("a", 0, 1, 2, 3)
	p.crash().has("a", 0, 1)
	for range 3 {
		third = third.crash()
		third.has("b", 0, 4, 5)
	}
	second.hold()
	first.hold()
}

// P18.1: the disk that is found has nothing loose, nothing named and no act counted; all is told of it from then on.
func TestFound(t *testing.T) {
	for _, n := range []int{1, 2, 3, 100} {
		p := newPair(t)
		p.ok(p.append("a", 1, 2), p.append("b", 3), p.arm(n, 1))
		found := p.crash(2)
		found.counted(0, false)
		found.named("a", "b")
		found.has("a", 0, 1, 2)
		found.has("b", 0)
		for range 5 {
			found.ok(found.append("a", 4), found.sync("a"), found.append("b", 5), found.rename("b", "c"))
		}
		found.counted(20, false)
		found.has("a", 0, 1, 2, 4, 4, 4, 4, 4)
		found.has("c", 1, 5)
		found.ok(found.append("a", 6, 7), found.arm(2, 1), found.sync("c"))
		found.want(found.append("a", 8, 9), api.ErrDown)
		found.counted(22, true)
		found.crash(-1).has("a", 0, 1, 2, 4, 4, 4, 4, 4, 6, 7, 8)
		found.crash(-1).has("c", 0, 5)
	}
	p := newPair(t)
	found := p.crash(1, 2, 3)
	found.named()
	found.ok(found.append("a", 1))
	p.crash().named()
}

// P18.2: by chance: behind every crash what was synced, and a beginning of what was loose.
func TestLastingByChance(t *testing.T) {
	chance := rand.New(rand.NewPCG(18, 3))
	for range 400 {
		p := newPair(t)
		for range 25 {
			p.someAct(chance)
		}
		before := told(p.d)
		for range 8 {
			found := p.d.Crash(chance.IntN(20)-10, chance.IntN(20)-10, chance.Int(), -chance.Int(), chance.IntN(3))
			after := told(found)
			if len(before) != len(after) {
				t.Fatalf("found are %v of %v", after, before)
			}
			for i, f := range before {
				whole := f.lasting + f.loose
				got := after[i]
				if got.name != f.name || got.loose != "" || len(got.lasting) < len(f.lasting) || len(got.lasting) > len(whole) || got.lasting != whole[:len(got.lasting)] {
					t.Fatalf("found is %v of %v", got, f)
				}
			}
		}
	}
}

// P7, as far as records and a disk bear it: wherever the power goes while records are appended and synced, in any part of an act and whatever is left, what is found are first ones of the changes, each whole, all that were synced among them.
func TestRecordsLast(t *testing.T) {
	changes := []api.Change{{Kind: api.Sub, ID: 1, Text: "a {1}"}, {Kind: api.Unsub, ID: 1}, {Kind: api.Sub, ID: 300, Text: "b {2}"}, {Kind: api.Replace, ID: 300, Text: ""}, {Kind: api.Sub, ID: api.MaxID, Text: "x"}}
	head, e := record.Head(7)
	if e != api.OK {
		t.Fatal(e)
	}
	// An act appends so many changes; one of none is a Sync.
	acts := []int{0, 1, 0, 2, 1, 0, 1}
	for n := 2; n <= len(acts)+2; n++ {
		for part := 0; part < 60; part++ {
			p := newPair(t)
			p.ok(p.append("journal", head...), p.arm(n-1, part))
			synced, appended := -1, 0
			for _, count := range acts {
				if count == 0 {
					if p.sync("journal") == api.OK {
						synced = appended
					}
					continue
				}
				b, e := record.Encode(changes[appended : appended+count]...)
				if e != api.OK {
					t.Fatal(e)
				}
				if p.append("journal", b...) == api.OK {
					appended += count
				}
				if p.d.Off() {
					break
				}
			}
			for choice := range 60 {
				b, e := p.d.Crash(choice).Read("journal")
				if e != api.OK {
					t.Fatal(e)
				}
				next, found, length, e := record.Scan(b)
				if e == api.ErrHead && synced < 0 {
					continue
				}
				if e != api.OK || next != 7 || length > len(b) || len(found) < synced || len(found) > len(changes) || !slices.Equal(found, changes[:len(found)]) {
					t.Fatalf("the power went at act %d, %d bytes done, %d left: found are %v of %d synced, %d", n, part, choice, found, synced, e)
				}
			}
		}
	}
}
