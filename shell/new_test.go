package shell

import (
	"fmt"
	"slices"
	"strings"
	"testing"

	"trommel/api"
	"trommel/record"
	"trommel/script"
)

// No script leaves a disk over which New refuses a system (P23.4). Here the disk
// is spoilt from outside, between two ops.

// played is a play with the ops of a text, and which comes next.
type played struct {
	*play
	t    *testing.T
	ops  []api.Op
	next int
}

func playOf(t *testing.T, ops ...string) *played {
	t.Helper()
	s, wrong, e := script.Parse("config 3 4 2 5 2 1 1 2\nattr a int\n" + strings.Join(ops, "\n") + "\n")
	if e != api.OK {
		t.Fatalf("line %d", wrong)
	}
	return &played{begin(s), t, s.Ops, 0}
}

// does does so many ops.
func (p *played) does(count int) {
	for range count {
		p.next++
		p.do(p.next, p.ops[p.next-1])
	}
}

// lay lays other bytes in the journal's place, lasting.
func (p *played) lay(b ...byte) {
	p.t.Helper()
	if p.disk.Remove("journal") != api.OK || p.disk.Append("journal", b...) != api.OK || p.disk.Sync("journal") != api.OK {
		p.t.Fatal("the disk is off")
	}
}

// told holds what is told in all, at the end of the play.
func (p *played) told(want ...string) {
	p.t.Helper()
	p.tellSystem()
	if got := p.String(); got != strings.Join(want, "\n")+"\n" {
		p.t.Fatalf("told is\n%s\nand not\n%s", got, strings.Join(want, "\n"))
	}
}

// P26.1: a system that New refuses behind a crash: it tells that it is down, and nothing else; every op but a crash is refused with ErrDown, and a crash is done.
func TestNewRefuses(t *testing.T) {
	others := []string{`call 0 sub "a {1}"`, "call 1 match a=1", "call 7 match", "step 0 1", "drain", "stop", "arm 1 0", "tidy", "call 0 unsub 1"}
	p := playOf(t, slices.Concat([]string{`call 0 sub "a {1}"`, "drain", "crash"}, others, []string{"crash 1 2", "crash"}, others[:3], []string{"crash", "call 1 match a=1", "drain", "stop", "tidy"})...)
	p.does(2)
	p.lay(1, 2, 3)
	p.does(1 + len(others) + 1)
	// It isn't mended by a crash.
	p.does(1 + 3)
	if e := p.disk.Remove("journal"); e != api.OK {
		t.Fatal(e)
	}
	p.does(5)
	p.told("1 ok", "2 moved 7", "user 0 number 1", "order 0", "registry 1 1 2", "3 refused 31",
		"4 refused 40", "5 refused 40", "6 refused 40", "7 refused 40", "8 refused 40", "9 refused 40", "10 refused 40", "11 refused 40", "12 refused 40",
		"down", "13 refused 31", "down", "14 refused 31", "15 refused 40", "16 refused 40", "17 refused 40",
		"down", "18 ok", "19 ok", "20 moved 6", "21 ok", "22 ok", "user 1 ok", "order 1", "registry 0 0 1")
}

// P26.1: it is refused with New's error, each of them; at the end of the play the line that it is down stands alone.
func TestErrorsOfNew(t *testing.T) {
	sub := func(id int, text string) api.Change { return api.Change{Kind: api.Sub, ID: id, Text: text} }
	for _, row := range []struct {
		want    api.Errno
		changes []api.Change
	}{
		{api.ErrForm, []api.Change{sub(2, "a {1}"), sub(1, "a {1}")}}, {api.ErrSyntax, []api.Change{sub(1, "a {")}}, {api.ErrTooDeep, []api.Change{sub(1, "!!!a {1}")}}, {api.ErrKind, []api.Change{sub(1, "b {1}")}}, {api.ErrTooWide, []api.Change{sub(1, "a {1} | a {2} | a {3} | a {4} | a {5}")}},
		{api.ErrTooMany, []api.Change{sub(1, "a {1}"), sub(2, "a {1}"), sub(3, "a {1}")}}, {api.ErrNoSub, []api.Change{{Kind: api.Unsub, ID: 1}}}, {api.OK, []api.Change{sub(1, "a {1}"), sub(2, "a {1}"), {Kind: api.Unsub, ID: 1}}},
	} {
		head, _ := record.Head(1)
		records, e := record.Encode(row.changes...)
		if e != api.OK {
			t.Fatal(e)
		}
		p := playOf(t, "crash", "call 0 match a=1", "drain")
		p.lay(append(head, records...)...)
		p.does(3)
		if row.want == api.OK {
			p.told("order", "registry 0 0 1", "1 ok", "2 ok", "3 moved 6", "user 0 meets 2", "order 0", "registry 1 1 3")
			continue
		}
		p.told("order", "registry 0 0 1", fmt.Sprintf("1 refused %d", row.want), "2 refused 40", "3 refused 40", "down")
	}
}
