package book_test

import (
	"maps"
	"math"
	"slices"
	"testing"

	"trommel/api"
	"trommel/book"
	"trommel/conj"
	"trommel/eval"
	"trommel/parse"
	"trommel/value"
)

// ledger is a registry as the chapter tells it: the texts under their numbers. All else is found anew each time.
type ledger struct {
	limits api.Limits
	texts  map[int]string
	next   int
	trees  map[string]api.Node
}

func newLedger(l api.Limits) *ledger {
	return &ledger{limits: l, texts: map[int]string{}, next: 1, trees: map[string]api.Node{}}
}

// width is that of a tree, or of what it isn't, by recursion over what it is when pushed.
func width(n api.Node, negated bool) int {
	switch n.Op {
	case api.OpPred:
		return 1
	case api.OpNot:
		return width(n.Kids[0], !negated)
	}
	sum, product := 0, 1
	for _, kid := range n.Kids {
		w := width(kid, negated)
		sum, product = min(sum+w, 1<<30), min(product*w, 1<<30)
	}
	if (n.Op == api.OpAnd) != negated {
		return product
	}
	return sum
}

func depth(n api.Node) int {
	below := 0
	for _, kid := range n.Kids {
		below = max(below, depth(kid))
	}
	return below + 1
}

// fits tells whether each predicate asks for what its attribute is.
func fits(n api.Node) bool {
	if n.Op == api.OpPred {
		asked := api.KindWord
		if n.Kind == api.PredInts || n.Kind == api.PredRange {
			asked = api.KindInt
		}
		return kinds(n.Attr) == asked
	}
	return !slices.ContainsFunc(n.Kids, func(kid api.Node) bool { return !fits(kid) })
}

// read is a text's tree and width; or the first of ErrSyntax, ErrTooDeep, ErrKind and ErrTooWide.
func (l *ledger) read(text string) (api.Node, int, api.Errno) {
	n, known := l.trees[text]
	if !known {
		var e api.Errno
		if n, _, e = parse.Parse(text); e != api.OK {
			return api.Node{}, 0, api.ErrSyntax
		}
		l.trees[text] = n
	}
	switch w := width(n, false); {
	case depth(n) > l.limits.Depth:
		return api.Node{}, 0, api.ErrTooDeep
	case !fits(n):
		return api.Node{}, 0, api.ErrKind
	case w > l.limits.Conj:
		return api.Node{}, 0, api.ErrTooWide
	default:
		return n, w, api.OK
	}
}

func (l *ledger) total() int {
	sum := 0
	for _, text := range l.texts {
		_, w, _ := l.read(text)
		sum += w
	}
	return sum
}

func (l *ledger) ids() []int { return slices.Sorted(maps.Keys(l.texts)) }

// put is a Sub or Replace: whether the registry with this text would be above its limits is asked of that registry itself.
func (l *ledger) put(kind, id int, text string) api.Errno {
	if _, _, e := l.read(text); e != api.OK {
		return e
	}
	old, there := l.texts[id]
	if kind == api.Replace && !there {
		return api.ErrNoSub
	}
	l.texts[id] = text
	if len(l.texts) > l.limits.Subs || l.total() > l.limits.Total || id > api.MaxID {
		delete(l.texts, id)
		if there {
			l.texts[id] = old
		}
		return api.ErrTooMany
	}
	if kind == api.Sub {
		l.next = id + 1
	}
	return api.OK
}

func (l *ledger) unsub(id int) api.Errno {
	if _, there := l.texts[id]; !there {
		return api.ErrNoSub
	}
	delete(l.texts, id)
	return api.OK
}

func (l *ledger) match(event []api.Pair) api.Answer {
	var names []string
	for _, p := range event {
		if kinds(p.Name) != p.Kind || value.Check(p.Value) != api.OK || slices.Contains(names, p.Name) {
			return code(api.ErrKind)
		}
		names = append(names, p.Name)
	}
	var ids []int
	for _, id := range l.ids() {
		if eval.Eval(l.trees[l.texts[id]], event) {
			ids = append(ids, id)
		}
	}
	return met(ids...)
}

func (l *ledger) do(c api.Call) api.Answer {
	switch c.Kind {
	case api.Sub:
		if e := l.put(api.Sub, l.next, c.Text); e != api.OK {
			return code(e)
		}
		return given(l.next - 1)
	case api.Replace:
		return code(l.put(api.Replace, c.ID, c.Text))
	case api.Unsub:
		return code(l.unsub(c.ID))
	case api.Match:
		return l.match(c.Event)
	}
	return code(api.ErrForm)
}

func (l *ledger) apply(changes ...api.Change) api.Errno {
	for _, c := range changes {
		e := api.ErrForm
		switch {
		case c.ID < 1 || c.ID > api.MaxID || len(c.Text) > api.MaxText:
		case c.Kind == api.Sub && c.ID >= l.next || c.Kind == api.Replace:
			e = l.put(c.Kind, c.ID, c.Text)
		case c.Kind == api.Unsub && len(c.Text) == 0:
			e = l.unsub(c.ID)
		}
		if e != api.OK {
			return e
		}
	}
	return api.OK
}

func (l *ledger) start(next int) api.Errno {
	if next < l.next || next > api.MaxID+1 {
		return api.ErrRange
	}
	l.next = next
	return api.OK
}

func sameAnswer(a, b api.Answer) bool {
	return a.Code == b.Code && a.ID == b.ID && slices.Equal(a.IDs, b.IDs)
}

func samePred(a, b api.Pred) bool { return conj.Compare(a, b) == 0 }

func sameConj(a, b api.Conj) bool {
	return a.Never == b.Never && slices.EqualFunc(a.Pos, b.Pos, samePred) && slices.EqualFunc(a.Neg, b.Neg, samePred)
}

// pair is a book and its ledger, to which the same is done.
type pair struct {
	t *testing.T
	b *book.Book
	l *ledger
}

// newPair takes limits that are in their ranges.
func newPair(t *testing.T, l api.Limits) *pair {
	t.Helper()
	p := &pair{t: t, b: book.New(l, attributes(t)), l: newLedger(l)}
	p.hold()
	return p
}

// hold holds all that a book tells against the ledger.
func (p *pair) hold() {
	p.t.Helper()
	b, l, ids := p.b, p.l, p.l.ids()
	if b.Subs() != len(ids) || b.Total() != l.total() || b.Next() != l.next {
		p.t.Fatalf("%v: Subs %d, Total %d, Next %d, not %d, %d, %d", l.texts, b.Subs(), b.Total(), b.Next(), len(ids), l.total(), l.next)
	}
	if c := &b.Counts; c.Subs() != b.Subs() || c.Total() != b.Total() || c.Next() != b.Next() {
		p.t.Fatalf("%v: of the Counts %d, %d, %d", l.texts, c.Subs(), c.Total(), c.Next())
	}
	if b.Subs() > l.limits.Subs || b.Total() > l.limits.Total {
		p.t.Fatalf("%v: Subs %d, Total %d are above %v", l.texts, b.Subs(), b.Total(), l.limits)
	}
	if got := b.IDs(); !slices.Equal(got, ids) {
		p.t.Fatalf("%v: IDs = %v", l.texts, got)
	}
	var changes []api.Change
	for _, id := range ids {
		changes = append(changes, subbed(id, l.texts[id]))
	}
	if got := b.Changes(); !slices.Equal(got, changes) {
		p.t.Fatalf("%v: Changes = %v", l.texts, got)
	}
	for _, id := range []int{math.MinInt, -1, 0, 1, 2, 3, l.next - 1, l.next, l.next + 1, api.MaxID, api.MaxID + 1, math.MaxInt} {
		p.holdOne(id)
	}
	for _, id := range ids {
		p.holdOne(id - 1)
		p.holdOne(id)
		p.holdOne(id + 1)
		p.holdOne(-id)
	}
}

// holdOne holds what is told of one number.
func (p *pair) holdOne(id int) {
	p.t.Helper()
	text, there := p.l.texts[id]
	if got, ok := p.b.Text(id); got != text || ok != there {
		p.t.Fatalf("%v: Text(%d) = %q, %v", p.l.texts, id, got, ok)
	}
	var want []api.Conj
	if there {
		want, _ = conj.All(p.l.trees[text], p.l.limits.Conj)
	}
	if got := p.b.Conjs(id); !slices.EqualFunc(got, want, sameConj) {
		p.t.Fatalf("%v: Conjs(%d) = %v, not %v", p.l.texts, id, got, want)
	}
}

func (p *pair) do(calls ...api.Call) []api.Answer {
	p.t.Helper()
	got := p.b.Do(calls...)
	if len(got) != len(calls) {
		p.t.Fatalf("%v: %d answers to %d calls", p.l.texts, len(got), len(calls))
	}
	for i, c := range calls {
		if want := p.l.do(c); !sameAnswer(got[i], want) {
			p.t.Fatalf("%v: call %d, %v, is answered %v, not %v", p.l.texts, i, c, got[i], want)
		}
	}
	p.hold()
	return got
}

// answered does a call and holds its answer to what is said too.
func (p *pair) answered(want api.Answer, c api.Call) {
	p.t.Helper()
	if got := p.do(c)[0]; !sameAnswer(got, want) {
		p.t.Errorf("%v is answered %v, not %v", c, got, want)
	}
}

// refused holds that a call is, by just that code, and that it changes nothing.
func (p *pair) refused(e api.Errno, c api.Call) {
	p.t.Helper()
	before := told(p.b)
	got := p.b.Do(c)
	if len(got) != 1 || got[0].Code != e || got[0].ID != 0 || len(got[0].IDs) != 0 {
		p.t.Errorf("%v: %v is answered %v, not %d", p.l.texts, c, got, e)
	}
	if after := told(p.b); !sameTold(before, after) {
		p.t.Errorf("%v: %v changes something", p.l.texts, c)
	}
	p.do(c)
}

func (p *pair) apply(want api.Errno, changes ...api.Change) {
	p.t.Helper()
	got := p.b.Apply(changes...)
	if l := p.l.apply(changes...); got != l || got != want {
		p.t.Fatalf("%v: Apply(%v) = %d, not %d, %d", p.l.texts, changes, got, want, l)
	}
	p.hold()
}

func (p *pair) start(want api.Errno, next int) {
	p.t.Helper()
	got := p.b.Start(next)
	if l := p.l.start(next); got != l || got != want {
		p.t.Fatalf("%v: Start(%d) = %d, not %d, %d", p.l.texts, next, got, want, l)
	}
	p.hold()
}

// sight is what a book tells of itself, and a few events of it.
type sight struct {
	subs, total, next int
	changes           []api.Change
	conjs             [][]api.Conj
	matches           [][]int
}

func told(b *book.Book) sight {
	s := sight{subs: b.Subs(), total: b.Total(), next: b.Next(), changes: b.Changes()}
	for _, id := range b.IDs() {
		s.conjs = append(s.conjs, b.Conjs(id))
	}
	for _, event := range [][]api.Pair{nil, {number("a", 1)}, {number("a", 2), word("c", "xy")}, {number("b", 2), number("a", 3), word("d", "x")}} {
		s.matches = append(s.matches, b.Do(match(event...))[0].IDs)
	}
	return s
}

func sameTold(a, b sight) bool {
	sameConjs := func(a, b []api.Conj) bool { return slices.EqualFunc(a, b, sameConj) }
	return a.subs == b.subs && a.total == b.total && a.next == b.next && slices.Equal(a.changes, b.changes) && slices.EqualFunc(a.conjs, b.conjs, sameConjs) && slices.EqualFunc(a.matches, b.matches, slices.Equal[[]int])
}
