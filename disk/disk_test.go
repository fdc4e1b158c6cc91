package disk_test

import (
	"math/rand/v2"
	"slices"
	"strings"
	"testing"

	"trommel/api"
	"trommel/disk"
)

// P18.1: the chapter's first and last example.
func TestExamples(t *testing.T) {
	p := newPair(t)
	p.ok(p.append("a", 1, 2, 3), p.sync("a"), p.append("a", 4, 5))
	p.has("a", 2, 1, 2, 3, 4, 5)
	p.counted(3, false)
	p.crash().has("a", 0, 1, 2, 3)
	p.crash(1).has("a", 0, 1, 2, 3, 4)
	p.crash(-1).has("a", 0, 1, 2, 3, 4, 5)

	p = newPair(t)
	p.ok(p.append("a", 1, 2), p.sync("a"), p.append("b", 3), p.rename("a", "b"))
	p.has("b", 0, 1, 2)
	p.named("b")
	p.want(p.sync("c"), api.ErrFile)
	p.want(p.append("B", 1), api.ErrForm)
}

// P18.1: a new disk is on, without files, and no act is counted.
func TestNew(t *testing.T) {
	p := newPair(t)
	p.named()
	p.counted(0, false)
	for _, name := range goodNames() {
		if b, e := p.d.Read(name); len(b) != 0 || e != api.ErrFile || p.d.Loose(name) != 0 {
			t.Errorf("%s: % x, %d", name, b, e)
		}
	}
	q := newPair(t)
	p.ok(p.append("a", 1))
	q.named()
	q.ok(q.append("a", 2))
	p.has("a", 1, 1)
	if p.d.Crash() == nil || q.d.Off() {
		t.Error("a crash of one disk is seen by another")
	}
}

// P18.1: Append of no bytes, of some, of many, to a new file and to one that is there.
func TestAppend(t *testing.T) {
	p := newPair(t)
	p.ok(p.append("a"))
	p.named("a")
	p.has("a", 0)
	p.counted(1, false)
	p.ok(p.append("a"), p.append("b", 9, 8), p.append("a", 1), p.append("a", 2, 3), p.append("a"), p.append("b"))
	p.has("a", 3, 1, 2, 3)
	p.has("b", 2, 9, 8)
	p.counted(7, false)
	p.ok(p.sync("a"), p.append("a"))
	p.has("a", 0, 1, 2, 3)
	p.ok(p.append("a", 4, 5))
	p.has("a", 2, 1, 2, 3, 4, 5)
	p.counted(10, false)

	great := []byte(strings.Repeat("trommel\x00\xff", 20_000))
	p.ok(p.append("c", great...), p.append("c", great...))
	p.has("c", 2*len(great), slices.Concat(great, great)...)
	for i := range 256 {
		p.ok(p.append("z9_", byte(i)))
	}
	if b, _ := p.d.Read("z9_"); len(b) != 256 || b[0] != 0 || b[255] != 255 || b[128] != 128 {
		t.Errorf("Read = % x", b)
	}
}

// P18.1: Sync of a file without bytes, with loose ones, and once more.
func TestSync(t *testing.T) {
	p := newPair(t)
	p.ok(p.append("a"), p.sync("a"), p.append("a", 1, 2), p.append("b", 7), p.sync("a"))
	p.has("a", 0, 1, 2)
	p.has("b", 1, 7)
	p.ok(p.sync("a"))
	p.counted(6, false)
	p.ok(p.append("a", 3))
	p.has("a", 1, 1, 2, 3)
	found := p.crash()
	found.has("a", 0, 1, 2)
	found.has("b", 0)
}

// P18.1: Rename to a new name, over a file, onto itself; loose bytes stay loose, lasting ones lasting.
func TestRename(t *testing.T) {
	p := newPair(t)
	p.ok(p.append("a", 1, 2), p.sync("a"), p.append("a", 3), p.rename("a", "c"))
	p.has("c", 1, 1, 2, 3)
	p.named("c")
	p.ok(p.append("b", 7, 8, 9), p.append("c", 4), p.rename("c", "b"))
	p.has("b", 2, 1, 2, 3, 4)
	p.named("b")
	p.counted(7, false)
	p.ok(p.rename("b", "b"))
	p.has("b", 2, 1, 2, 3, 4)
	p.named("b")
	p.counted(8, false)
	p.want(p.rename("c", "b"), api.ErrFile)
	p.want(p.rename("a", "a"), api.ErrFile)
	p.ok(p.append("a", 5), p.rename("b", "a"), p.append("b", 6), p.sync("a"), p.append("a", 7))
	p.has("a", 1, 1, 2, 3, 4, 7)
	p.has("b", 1, 6)
	p.named("a", "b")
	found := p.crash(0, 1)
	found.has("a", 0, 1, 2, 3, 4)
	found.has("b", 0, 6)

	// What was lasting under a name is gone with it, though what comes there is loose.
	p = newPair(t)
	p.ok(p.append("journal", 1, 2, 3), p.sync("journal"), p.append("fresh", 4, 5), p.rename("fresh", "journal"))
	p.has("journal", 2, 4, 5)
	p.crash().has("journal", 0)
	p.crash(1).has("journal", 0, 4)
	p.crash().named("journal")
}

// P18.1: Remove, and a file that is made anew under the name.
func TestRemove(t *testing.T) {
	p := newPair(t)
	p.ok(p.append("a", 1, 2), p.sync("a"), p.append("b", 3), p.remove("a"))
	p.named("b")
	p.counted(4, false)
	p.want(p.remove("a"), api.ErrFile)
	p.want(p.sync("a"), api.ErrFile)
	p.counted(4, false)
	p.ok(p.append("a", 9))
	p.has("a", 1, 9)
	p.ok(p.remove("b"), p.remove("a"))
	p.named()
	p.crash().named()
}

// P18.1: names rise byte by byte, a beginning ahead of what is longer, in whatever order they came.
func TestNames(t *testing.T) {
	want := []string{"a", "a0", "a_", "aa", "ab", "b", "b0", "ba", "journal", "z", "z9_"}
	chance := rand.New(rand.NewPCG(18, 1))
	for range 20 {
		p := newPair(t)
		for _, i := range chance.Perm(len(want)) {
			p.ok(p.append(want[i], byte(i)))
		}
		p.named(want...)
		p.ok(p.remove("b"), p.rename("z", "b"), p.rename("aa", "c"))
		p.named("a", "a0", "a_", "ab", "b", "b0", "ba", "c", "journal", "z9_")
		p.crash().named("a", "a0", "a_", "ab", "b", "b0", "ba", "c", "journal", "z9_")
		p.named()
	}
}

// P18.1: texts that are no names, at each call; and names at the edges.
func TestWrongNames(t *testing.T) {
	p := newPair(t)
	p.ok(p.append("a", 1, 2), p.sync("a"), p.append("a", 3), p.append("b", 4))
	for _, name := range wrongNames() {
		for i, got := range p.all(name) {
			if got != api.ErrForm {
				t.Errorf("act %d with %q: %d", i, name, got)
			}
		}
		p.want(p.rename("c", name), api.ErrForm) // ahead of ErrFile
		p.want(p.rename(name, "c"), api.ErrForm)
		if b, e := p.d.Read(name); len(b) != 0 || e != api.ErrForm || p.d.Loose(name) != 0 {
			t.Errorf("Read(%q) = % x, %d", name, b, e)
		}
	}
	p.has("a", 1, 1, 2, 3)
	p.has("b", 1, 4)
	p.counted(4, false)
	for _, name := range goodNames()[2:] {
		p.ok(p.append(name, 1), p.sync(name), p.rename(name, "b"), p.rename("b", name), p.remove(name))
	}
}

// P18.1, P18.3: files that aren't there, at each call; nothing changes, and nothing is counted.
func TestNoFile(t *testing.T) {
	p := newPair(t)
	p.ok(p.append("a", 1), p.sync("a"), p.append("a", 2))
	for _, name := range goodNames()[1:] {
		p.want(p.sync(name), api.ErrFile)
		p.want(p.rename(name, "a"), api.ErrFile)
		p.want(p.rename(name, name), api.ErrFile)
		p.want(p.rename(name, "zz"), api.ErrFile)
		p.want(p.remove(name), api.ErrFile)
		if b, e := p.d.Read(name); len(b) != 0 || e != api.ErrFile || p.d.Loose(name) != 0 {
			t.Errorf("Read(%q) = % x, %d", name, b, e)
		}
	}
	p.has("a", 1, 1, 2)
	p.named("a")
	p.counted(3, false)
}

// P18.1, P18.3: on a disk that is off, by an act of each kind or by Crash, every call answers ErrDown ahead of all else, and nothing changes.
func TestOff(t *testing.T) {
	for _, way := range []struct {
		name string
		goes func(p *pair)
	}{
		{"Append", func(p *pair) { p.arm(1, 1); p.want(p.append("b", 8, 9), api.ErrDown) }},
		{"Append of a new file", func(p *pair) { p.arm(1, 0); p.want(p.append("new", 8, 9), api.ErrDown) }},
		{"Sync", func(p *pair) { p.arm(1, 1); p.want(p.sync("a"), api.ErrDown) }},
		{"Rename", func(p *pair) { p.arm(1, 1); p.want(p.rename("a", "b"), api.ErrDown) }},
		{"Remove", func(p *pair) { p.arm(1, 1); p.want(p.remove("a"), api.ErrDown) }},
		{"Crash", func(p *pair) { p.crash(1) }},
		{"Crash of one that is armed", func(p *pair) { p.arm(3, 1); p.crash() }},
	} {
		p := newPair(t)
		p.ok(p.append("a", 1, 2), p.sync("a"), p.append("a", 3, 4), p.append("b", 5, 6))
		way.goes(p)
		p.counted(4, true)
		p.named()
		before := [][]sheet{told(p.d.Crash()), told(p.d.Crash(1, 1)), told(p.d.Crash(2, 2, 2)), told(p.d.Crash(-1, -1, -1))}
		for _, name := range slices.Concat(goodNames(), wrongNames()) {
			for i, got := range p.all(name) {
				if got != api.ErrDown {
					t.Errorf("%s: act %d with %q: %d", way.name, i, name, got)
				}
			}
			if b, e := p.d.Read(name); len(b) != 0 || e != api.ErrDown || p.d.Loose(name) != 0 {
				t.Errorf("%s: Read(%q) = % x, %d", way.name, name, b, e)
			}
		}
		for _, n := range []int{-1, 0, 1, 2, 100} {
			p.want(p.arm(n, 1), api.ErrDown)
		}
		p.counted(4, true)
		after := [][]sheet{told(p.d.Crash()), told(p.d.Crash(1, 1)), told(p.d.Crash(2, 2, 2)), told(p.d.Crash(-1, -1, -1))}
		if !slices.EqualFunc(before, after, slices.Equal[[]sheet]) {
			t.Errorf("%s: found was %v, and is now %v", way.name, before, after)
		}
		for _, choices := range [][]int{nil, {1}, {2, 1, 1}, {0, 2, 2}} {
			p.crash(choices...)
		}
	}
}

// told is what a disk tells of its files.
func told(d *disk.Disk) []sheet {
	var sheets []sheet
	for _, name := range d.Names() {
		b, _ := d.Read(name)
		last := len(b) - d.Loose(name)
		sheets = append(sheets, sheet{name, string(b[:last]), string(b[last:])})
	}
	return sheets
}

// P18.1: the errors in their order at each call: ErrDown, ErrForm, ErrFile.
func TestErrorsInOrder(t *testing.T) {
	calls := map[string]func(d *disk.Disk, name string) api.Errno{
		"Append":    func(d *disk.Disk, name string) api.Errno { return d.Append(name, 1) },
		"Sync":      (*disk.Disk).Sync,
		"Rename":    func(d *disk.Disk, name string) api.Errno { return d.Rename(name, "to") },
		"Rename to": func(d *disk.Disk, name string) api.Errno { return d.Rename("no_such", name) },
		"Remove":    (*disk.Disk).Remove,
		"Read":      func(d *disk.Disk, name string) api.Errno { _, e := d.Read(name); return e },
	}
	for call, do := range calls {
		d := disk.New()
		if got := do(d, "N"); got != api.ErrForm {
			t.Errorf("%s of no name: %d", call, got)
		}
		if got := do(d, "n"); got != api.ErrFile && call != "Append" || got != api.OK && call == "Append" {
			t.Errorf("%s of no file: %d", call, got)
		}
		d.Crash()
		for _, name := range []string{"N", "n", "no_such"} {
			if got := do(d, name); got != api.ErrDown {
				t.Errorf("%s of %s, off: %d", call, name, got)
			}
		}
	}
}

// P18.1: rows of calls by chance, with the power going anywhere and coming again.
func TestByChance(t *testing.T) {
	chance := rand.New(rand.NewPCG(18, 2))
	gone := 0
	for range 300 {
		p := newPair(t)
		for range 60 {
			switch chance.IntN(25) {
			case 0:
				p.arm(chance.IntN(8)-1, chance.IntN(7)-1)
			case 1:
				p = p.crash(chance.IntN(9)-4, chance.IntN(9)-4, chance.IntN(9)-4)
			default:
				p.someAct(chance)
			}
			if p.d.Off() && chance.IntN(3) > 0 {
				gone++
				p.crash(chance.IntN(9)-4, chance.IntN(9)-4)
				p = p.crash(chance.Int(), -chance.Int(), chance.IntN(5))
			}
		}
	}
	if gone < 300 {
		t.Errorf("the power went only %d times", gone)
	}
}
