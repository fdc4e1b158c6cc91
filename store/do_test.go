package store_test

import (
	"math"
	"math/rand/v2"
	"slices"
	"testing"

	"trommel/api"
	"trommel/disk"
	"trommel/eval"
	"trommel/parse"
)

// The chapter's first example.
func TestExampleActs(t *testing.T) {
	p := opened(t, most)
	p.answered(2, []api.Call{sub("a {1}")}, given(1))
	p.answered(0, []api.Call{match(number("a", 1))}, met(1))
	p.answered(0, []api.Call{sub("b")}, code(api.ErrSyntax))
	p.answered(2, []api.Call{sub("b {1}"), sub("b {2}"), unsub(1)}, given(2), given(3), done)
	p.answered(0, []api.Call{match(number("a", 1)), match(number("b", 2))}, met(), met(3))
}

// The chapter's second example.
func TestExamplePower(t *testing.T) {
	p := opened(t, most)
	p.arm(2, 0)
	p.answered(1, []api.Call{sub("a {1}"), sub("b {1}")}, code(api.ErrDown), code(api.ErrDown))
	p.isDown()
	none := p.crash()
	none.open(api.OK)
	none.answered(2, []api.Call{match(number("a", 1), number("b", 1)), sub("a {1}")}, met(), given(1))
	for bytes := range 27 {
		f := p.crash(bytes)
		f.open(api.OK)
		if want := bytes / 13; f.x.Subs() != want || f.x.Next() != want+1 {
			t.Errorf("behind %d bytes: Subs %d, Next %d", bytes, f.x.Subs(), f.x.Next())
		}
	}
	first := p.crash(13)
	first.open(api.OK)
	first.answered(2, []api.Call{match(number("a", 1), number("b", 1)), sub("b {1}")}, met(1), given(2))
}

// The document's examples 5 to 7, on a store.
func TestExamplesOfTheWhole(t *testing.T) {
	p := opened(t, most)
	a1 := match(number("a", 1))
	p.answered(2, []api.Call{sub("a {1}"), sub("!a {1}"), a1}, given(1), given(2), met(1))
	p.answered(2, []api.Call{replace(2, "a [0, 9]"), a1}, done, met(1, 2))
	p.answered(2, []api.Call{unsub(1), a1, sub("a {1}")}, done, met(2), given(3))
	p = opened(t, api.Limits{Depth: 9, Conj: 9, Subs: 1, Total: 9})
	p.answered(2, []api.Call{sub("a {1}"), sub("a {1}"), replace(1, "a {2}")}, given(1), code(api.ErrTooMany), done)
	p = opened(t, most)
	p.arm(2, 0)
	p.answered(1, []api.Call{sub("a {1}")}, code(api.ErrDown))
	for _, choice := range []int{0, -1} {
		f := p.crash(choice)
		f.open(api.OK)
		if got := f.x.Subs(); got != -choice {
			t.Errorf("with the choice %d there are %d", choice, got)
		}
	}
}

// P20.1: no calls, no answers, no act; of a store that is down neither.
func TestNoCalls(t *testing.T) {
	p := opened(t, most)
	p.answered(0, nil)
	p.answered(0, []api.Call{})
	p.answered(2, []api.Call{sub("a {1}")}, given(1))
	p.answered(0, nil)
	p.arm(1, 0)
	p.answered(0, nil)
	if p.x.Down() {
		t.Error("it is down without an act")
	}
	p.answered(0, []api.Call{unsub(1)}, code(api.ErrDown))
	p.answered(0, nil)
	p.isDown()
}

// P20.1: a Match sees the changes ahead of it in the same Do, and none behind it.
func TestMatchAmongChanges(t *testing.T) {
	p := opened(t, most)
	m := match(number("a", 1))
	p.answered(2, []api.Call{m, sub("a {1}"), m, sub("!a {2}"), m, replace(1, "a {2}"), m, unsub(2), m, replace(1, "a [1, 1]"), m, unsub(1), m},
		met(), given(1), met(1), given(2), met(1, 2), done, met(2), done, met(), done, met(1), done, met())
	p.answered(2, []api.Call{sub("a {1}"), m}, given(3), met(3))
	p.answered(2, []api.Call{m, unsub(3)}, met(3), done)
	p.answered(0, []api.Call{m, m}, met(), met())
	// Changes that undo one another are changes still.
	p.answered(2, []api.Call{sub("a {1}"), unsub(4)}, given(4), done)
	p.has(journalOf(t, 1, subbed(1, "a {1}"), subbed(2, "!a {2}"), replaced(1, "a {2}"), unsubbed(2), replaced(1, "a [1, 1]"), unsubbed(1), subbed(3, "a {1}"), unsubbed(3), subbed(4, "a {1}"), unsubbed(4)))
}

// P20.1: each code that a call can be answered with, by itself and among calls that are answered; what is refused changes nothing and takes no act.
func TestEachCode(t *testing.T) {
	l := api.Limits{Depth: 3, Conj: 4, Subs: 2, Total: 5}
	rows := []struct {
		call api.Call
		want api.Errno
	}{
		{sub("a {"), api.ErrSyntax}, {sub(""), api.ErrSyntax}, {sub(long(api.MaxText + 1)), api.ErrSyntax}, {replace(9, "a {"), api.ErrSyntax}, {replace(1, "!!!z {"), api.ErrSyntax},
		{sub("!!!a {1}"), api.ErrTooDeep}, {sub("!!!z {1}"), api.ErrTooDeep}, {replace(1, "!!!a {1}"), api.ErrTooDeep}, {replace(9, "!!!a {1}"), api.ErrTooDeep},
		{sub("z {1}"), api.ErrKind}, {sub(`a {"x"}`), api.ErrKind}, {replace(9, "c [1, 2]"), api.ErrKind}, {sub(wide(5) + " | z {1}"), api.ErrKind}, {match(number("z", 1)), api.ErrKind}, {match(number("a", 1), number("a", 1)), api.ErrKind},
		{sub(wide(5)), api.ErrTooWide}, {replace(1, wide(5)), api.ErrTooWide}, {replace(9, wide(5)), api.ErrTooWide},
		{replace(9, "a {1}"), api.ErrNoSub}, {replace(0, wide(4)), api.ErrNoSub}, {replace(math.MinInt, "a {1}"), api.ErrNoSub}, {unsub(9), api.ErrNoSub}, {unsub(0), api.ErrNoSub}, {unsub(-1), api.ErrNoSub}, {unsub(math.MaxInt), api.ErrNoSub}, {unsub(3), api.ErrNoSub},
		{sub("a {1}"), api.ErrTooMany}, {sub(wide(4)), api.ErrTooMany}, {replace(2, wide(2)), api.ErrTooMany}, {replace(2, wide(4)), api.ErrTooMany},
		{api.Call{}, api.ErrForm}, {api.Call{Change: api.Change{Kind: 5, ID: 1, Text: "a {1}"}}, api.ErrForm}, {api.Call{Change: api.Change{Kind: -1}}, api.ErrForm}, {api.Call{Change: api.Change{Kind: math.MaxInt}}, api.ErrForm},
	}
	p := opened(t, l)
	p.answered(2, []api.Call{sub(wide(4)), sub("!a {7}")}, given(1), given(2))
	for _, row := range rows {
		p.answered(0, []api.Call{row.call}, code(row.want))
		p.answered(0, []api.Call{match(number("a", 1)), row.call, match(number("a", 7)), row.call}, met(1, 2), code(row.want), met(), code(row.want))
	}
	p.asks(fewEvents())
	for _, row := range rows {
		p.answered(2, []api.Call{row.call, replace(1, wide(4)), row.call, replace(2, "!a {7}"), row.call, match(number("a", 7)), row.call}, code(row.want), done, code(row.want), done, code(row.want), met(), code(row.want))
	}
	p.asks(fewEvents())
	// The power that goes takes the code of every call of that Do.
	for _, row := range rows {
		f := p.crash()
		f.open(api.OK)
		f.arm(1, 0)
		f.answered(0, []api.Call{row.call}, code(row.want))
		f.answered(0, []api.Call{row.call, unsub(1), match()}, code(api.ErrDown), code(api.ErrDown), code(api.ErrDown))
		f.isDown()
	}
}

// P20.1: what a kind doesn't use plays no part, neither in the answer nor in the journal.
func TestUnusedPlaysNoPart(t *testing.T) {
	p := opened(t, most)
	bad := []api.Pair{number("z", 1), {}}
	call := func(kind, id int, text string) api.Call {
		return api.Call{Change: api.Change{Kind: kind, ID: id, Text: text}, Event: bad}
	}
	for _, id := range []int{0, -1, 1, 7, api.MaxID + 1, math.MaxInt, math.MinInt} {
		next := p.x.Next()
		p.answered(2, []api.Call{call(api.Sub, id, "a {1}")}, given(next))
		p.answered(2, []api.Call{call(api.Replace, next, "a {2}")}, done)
		p.answered(2, []api.Call{call(api.Unsub, next, long(api.MaxText+1)), {Change: api.Change{Kind: api.Match, ID: id, Text: "a {"}, Event: nil}}, done, met())
	}
	p = p.crash()
	p.opensWith(0, api.OK)
	if p.x.Next() != 8 || p.x.Subs() != 0 {
		t.Errorf("Next %d, Subs %d", p.x.Next(), p.x.Subs())
	}
}

// P20.1: a text is kept as it was given, of any bytes that an expression may have and as long as may be, also behind a crash.
func TestTextsAreKept(t *testing.T) {
	p := opened(t, most)
	list := append(texts(), long(api.MaxText), "\t\n a\n{ 1 ,\t2 }\n", `c {"\x00\xff"}`, `c {"\xc3\xa9"}`, `((( a {1} )))`)
	for _, text := range list {
		p.do(sub(text), replace(1, text))
	}
	for range 3 {
		for i, text := range list {
			if got, ok := p.x.Text(i + 1); (i > 0 && got != text) || !ok {
				t.Errorf("Text(%d) = %q, %v", i+1, got, ok)
			}
		}
		if got, _ := p.x.Text(1); got != list[len(list)-1] {
			t.Errorf("Text(1) = %q", got)
		}
		p.compact(api.OK)
		p = p.crash()
		p.opensWith(0, api.OK)
	}
}

// P2, P20.2: an event meets just those whose tree the evaluator makes true.
func TestOneMeaning(t *testing.T) {
	p := opened(t, most)
	var trees []api.Node
	for i, text := range texts() {
		n, e := parse.Expr(p.s, api.MaxDepth, text)
		if e != api.OK {
			t.Fatal(text, e)
		}
		trees = append(trees, n)
		p.answered(2, []api.Call{sub(text)}, given(i+1))
	}
	for round := range 3 {
		met := 0
		for _, event := range events() {
			got := p.do(match(event...))[0]
			for i, n := range trees {
				if slices.Contains(got.IDs, i+1) != eval.Eval(n, event) {
					t.Fatalf("round %d: %v of %v meets %v", round, event, texts(), got)
				}
			}
			met += len(got.IDs)
		}
		if met < 1000 {
			t.Errorf("only %d are met", met)
		}
		switch round {
		case 0:
			for i := range trees {
				trees[i] = trees[(i+7)%len(trees)]
				if i+7 < len(trees) {
					p.answered(2, []api.Call{replace(i+1, texts()[i+7])}, done)
				} else {
					n, _ := parse.Expr(p.s, api.MaxDepth, "a [0, 2] & !b {1}")
					trees[i] = n
					p.answered(2, []api.Call{replace(i+1, "a [0, 2] & !b {1}")}, done)
				}
			}
		case 1:
			p.opensWith(0, api.OK)
		}
	}
}

// powerRows are Dos with changes, in each of which other calls stand beside them.
func powerRows() [][]api.Call {
	m := match(number("a", 1))
	return [][]api.Call{
		{sub("a {1}")}, {replace(1, "a {2}")}, {unsub(2)}, {m, sub("a {1}"), m}, {sub("a {"), sub("a {1}"), {}}, {match(number("z", 1)), unsub(1), unsub(1)}, {sub("a {1}"), sub("a {2}"), replace(3, "b {1}"), unsub(4), m},
	}
}

// P20.1, P20.4: power that goes at the Append or at the Sync of a Do is ErrDown for each of its calls, and from then on for all.
func TestPowerInDo(t *testing.T) {
	for _, row := range powerRows() {
		for n := 1; n <= 2; n++ {
			for _, part := range []int{-1, 0, 1, 5, 13, 14, 1000} {
				p := opened(t, most)
				p.do(sub("a {1}"), sub("!a {1}"))
				p.arm(n, part)
				p.answered(0, []api.Call{match(number("a", 1)), sub("a {")}, met(1), code(api.ErrSyntax))
				p.answered(n-1, row, allDown(row)...)
				p.isDown()
			}
		}
		p := opened(t, most)
		p.do(sub("a {1}"), sub("!a {1}"))
		p.arm(3, 0)
		p.do(row...)
		if p.x.Down() {
			t.Error("it is down without an error")
		}
	}
}

// P20.1: a store is down when its disk has answered it an error, not ahead of that.
func TestDownByTheDiskAlone(t *testing.T) {
	goes := []func(d *disk.Disk){
		func(d *disk.Disk) { d.Crash() },
		func(d *disk.Disk) { d.Arm(1, 0); d.Append("other", 1) },
	}
	for _, off := range goes {
		p := opened(t, most)
		p.do(sub("a {1}"), sub("!a {2}"))
		off(p.d)
		off(p.wd)
		p.hold()
		p.answered(0, []api.Call{match(number("a", 1)), sub("a {"), unsub(9)}, met(1, 2), code(api.ErrSyntax), code(api.ErrNoSub))
		p.asks(fewEvents())
		if p.x.Down() {
			t.Fatal("it is down without an act")
		}
		p.answered(0, []api.Call{match(), unsub(1)}, code(api.ErrDown), code(api.ErrDown))
		p.isDown()
	}
	for _, off := range goes {
		p := opened(t, most)
		p.do(sub("a {1}"))
		off(p.d)
		off(p.wd)
		p.compact(api.ErrDown)
		p.isDown()
	}
}

// P20.1, P20.2: by chance, under small limits and great ones: answers, acts and bytes are those of a book and a journal.
func TestDoByChance(t *testing.T) {
	chance := rand.New(rand.NewPCG(20, 1))
	codes := map[api.Errno]int{}
	for round := range 250 {
		l := most
		if round%3 > 0 {
			l = someLimits(chance)
		}
		p := opened(t, l)
		for range 25 {
			calls := someCalls(chance, 3, 1+p.x.Next())
			before, next := p.d.Acts(), p.x.Next()
			answers := p.do(calls...)
			for _, a := range answers {
				codes[a.Code]++
			}
			if len(changed(calls, answers)) > 0 {
				p.took(before, 2)
			} else {
				p.took(before, 0)
			}
			if p.x.Next() < next {
				t.Fatal("the numbers fall")
			}
			p.opens(someEvent(chance))
			switch chance.IntN(12) {
			case 0:
				p.compact(api.OK)
			case 1:
				p.opensWith(0, api.OK)
			case 2:
				p = p.crash(chance.Int(), chance.Int())
				p.opensWith(0, api.OK)
			}
		}
		p.asks(fewEvents())
	}
	for _, e := range []api.Errno{api.OK, api.ErrForm, api.ErrSyntax, api.ErrTooDeep, api.ErrKind, api.ErrTooWide, api.ErrTooMany, api.ErrNoSub} {
		if codes[e] < 20 {
			t.Errorf("%d came %d times", e, codes[e])
		}
	}
	if len(codes) != 8 {
		t.Errorf("the codes are %v", codes)
	}
}

// P20.2: a Do of many calls is as many Dos, one call each, but for the acts.
func TestDoAtOnce(t *testing.T) {
	chance := rand.New(rand.NewPCG(20, 2))
	for range 60 {
		l := someLimits(chance)
		one, many := opened(t, l), opened(t, l)
		var calls []api.Call
		for range 30 {
			calls = append(calls, someCall(chance, 3, 8))
		}
		got := many.do(calls...)
		for i, c := range calls {
			if a := one.do(c)[0]; !sameAnswer(a, got[i]) {
				t.Fatalf("%v is answered %v, not %v", c, got[i], a)
			}
		}
		if a, b := filesOf(one.d), filesOf(many.d); a != b {
			t.Fatalf("the disks are %s and %s", a, b)
		}
	}
}
