package journal_test

import (
	"fmt"
	"math/rand/v2"
	"slices"
	"testing"

	"trommel/api"
	"trommel/disk"
	"trommel/journal"
)

// history is what may be found behind a journal's calls.
type history struct {
	head    int          // the number of the last head that was written with OK
	lasting []api.Change // at the last Sync, Rewrite or Open that answered OK
	since   []api.Change // appended since, with OK or with ErrDown
	// Of a last Rewrite that answered ErrDown.
	rewriting bool
	newHead   int
	anew      []api.Change
	// All of the above as one text, once it is known.
	text string
}

// allows tells whether such changes and such a next number may be found.
func (h *history) allows(next int, changes []api.Change) bool {
	all := slices.Concat(h.lasting, h.since)
	if len(changes) >= len(h.lasting) && len(changes) <= len(all) && slices.Equal(changes, all[:len(changes)]) && next == nextOf(h.head, changes...) {
		return true
	}
	return h.rewriting && slices.Equal(changes, h.anew) && next == nextOf(h.newHead, changes...)
}

// call is one of a journal; it tells the history what it has done.
type call func(j *journal.Journal, h *history) api.Errno

func appending(changes ...api.Change) call {
	return func(j *journal.Journal, h *history) api.Errno {
		e := j.Append(changes...)
		if e == api.OK || e == api.ErrDown {
			h.since = append(h.since, changes...)
		}
		return e
	}
}

func syncing() call {
	return func(j *journal.Journal, h *history) api.Errno {
		e := j.Sync()
		if e == api.OK {
			h.lasting, h.since = slices.Concat(h.lasting, h.since), nil
		}
		return e
	}
}

func rewriting(next int, changes ...api.Change) call {
	return func(j *journal.Journal, h *history) api.Errno {
		e := j.Rewrite(next, changes...)
		switch e {
		case api.OK:
			*h = history{head: next, lasting: changes}
		case api.ErrDown:
			h.rewriting, h.newHead, h.anew = true, next, changes
		}
		return e
	}
}

// run opens a journal on a new disk and does calls up to the first error.
func run(d *disk.Disk, calls ...call) (history, api.Errno) {
	h := history{head: 1}
	j, _, _, e := journal.Open(d)
	for _, do := range calls {
		if e == api.OK {
			e = do(j, &h)
		}
	}
	h.text = fmt.Sprint(h)
	return h, e
}

// explorer goes through all that may be found, each once.
type explorer struct {
	t    *testing.T
	seen map[string]bool
	most int // how many losses of power one behind the other it has seen
}

// chances are choices of a crash: of each file nothing, something and all that is loose.
func chances(loose int) [][]int {
	all := [][]int{nil}
	for journal := range loose + 1 {
		all = append(all, []int{journal}, []int{0, journal}, []int{-1, journal}, []int{7, journal})
	}
	return append(all, []int{-1}, []int{-1, -1}, []int{7, -1})
}

// look opens the disk that is found behind a crash, whole and with the power
// going at each act of that Open, and then again what is found behind that.
func (x *explorer) look(crashed *disk.Disk, choices []int, h history, losses int) {
	x.t.Helper()
	d := crashed.Crash(choices...)
	key := h.text + filesOf(d)
	if x.seen[key] {
		return
	}
	x.seen[key] = true
	x.most = max(x.most, losses)
	x.finds(d, h)
	for n := 1; n <= 4; n++ {
		for _, part := range []int{-1, 0, 1, 5, 6, 7, 15, 19, 20, 30, 1000} {
			again := crashed.Crash(choices...)
			again.Arm(n, part)
			if _, _, _, e := journal.Open(again); e == api.OK {
				return
			}
			for _, next := range [][]int{nil, {-1}, {-1, -1}, {3, 3}} {
				x.look(again, next, h, losses+1)
			}
		}
	}
}

// finds holds that Open finds what may be found, and that it then lasts.
func (x *explorer) finds(d *disk.Disk, h history) {
	x.t.Helper()
	_, next, changes, e := journal.Open(d)
	if e != api.OK || !h.allows(next, changes) {
		x.t.Fatalf("Open = %d, %v, %d; behind %+v", next, changes, e, h)
	}
	acts := d.Acts()
	if _, next2, changes2, e := journal.Open(d); next2 != next || !slices.Equal(changes2, changes) || e != api.OK || d.Acts() != acts {
		x.t.Fatalf("Open = %d, %v, then %d, %v, %d", next, changes, next2, changes2, e)
	}
	d = d.Crash(5, 5)
	if _, next2, changes2, e := journal.Open(d); next2 != next || !slices.Equal(changes2, changes) || e != api.OK || d.Acts() != 0 {
		x.t.Fatalf("Open = %d, %v, and behind a crash %d, %v, %d", next, changes, next2, changes2, e)
	}
}

// rows are calls one behind the other.
func rows() [][]call {
	a, b, c, d, e := subbed(1, "a {1}"), unsubbed(300), replaced(1, ""), subbed(20, "x"), unsubbed(1)
	return [][]call{
		{},
		{appending(a, b), syncing(), appending(c), appending(d, e), syncing()},
		{appending(a), appending(b), appending(c), appending(d, e)},
		{appending(a, b), rewriting(9, c), appending(d), syncing(), rewriting(30), appending(e), syncing()},
		{rewriting(7, a, b), rewriting(1, d), appending(a), rewriting(5), rewriting(api.MaxID+1, e)},
		{appending(a), syncing(), appending(b), rewriting(2, a, b, c), syncing(), appending(d), appending(e)},
	}
}

// mostLoose is above what any of the rows appends at once, and what it leaves loose.
const mostLoose = 50

// P19.2: the power goes at every act of rows of calls, with every number of bytes of an Append that is cut, with every choice; and again in the Open behind it, and so on.
func TestPowerGoesAtEveryAct(t *testing.T) {
	for _, row := range rows() {
		x := &explorer{t, map[string]bool{}, 0}
		whole := disk.New()
		if _, e := run(whole, row...); e != api.OK {
			t.Fatal(e)
		}
		for n := 1; n <= whole.Acts(); n++ {
			for part := range mostLoose {
				d := disk.New()
				d.Arm(n, part)
				h, e := run(d, row...)
				if e != api.ErrDown || d.Acts() != n-1 {
					t.Fatalf("armed with %d: %d, %d acts", n, e, d.Acts())
				}
				for _, choices := range chances(mostLoose) {
					x.look(d, choices, h, 1)
				}
			}
		}
		// It may also go between two acts.
		for count := range len(row) + 1 {
			d := disk.New()
			h, e := run(d, row[:count]...)
			if e != api.OK {
				t.Fatal(e)
			}
			for _, choices := range chances(mostLoose) {
				x.look(d, choices, h, 1)
			}
		}
		if x.most < 3 {
			t.Errorf("only %d losses of power one behind the other", x.most)
		}
	}
}

// P19.2: of what was appended since, every number of first ones is found by some choice; what was synced always, what was torn never.
func TestFirstOnesAreFound(t *testing.T) {
	row := several()
	d := disk.New()
	if _, e := run(d, appending(row[:2]...), syncing(), appending(row[2:4]...), appending(row[4:]...)); e != api.OK {
		t.Fatal(e)
	}
	loose := d.Loose("journal")
	found := make([]int, len(row)+1)
	for choice := range loose + 1 {
		_, _, changes, e := journal.Open(d.Crash(choice))
		if e != api.OK || len(changes) < 2 || !slices.Equal(changes, row[:len(changes)]) {
			t.Fatalf("with %d bytes: %v, %d", choice, changes, e)
		}
		if want := wholeIn(len(wholeOf(1, row[:2]...))+choice, 1, row); len(changes) != want {
			t.Fatalf("with %d bytes %d changes are found, not %d", choice, len(changes), want)
		}
		found[len(changes)]++
	}
	for count := 2; count < len(found); count++ {
		want := 1
		if count < len(row) {
			want = len(recordsOf(row[count]))
		}
		if found[count] != want {
			t.Errorf("%d changes are found %d times, not %d", count, found[count], want)
		}
	}
}

// P19.2: of a Rewrite at which the power goes the old ones are found, all of them that lasted, or the new ones, never some of both.
func TestRewriteIsWholeOrNot(t *testing.T) {
	old, anew := several()[:4], several()[4:]
	for n := 1; n <= 4; n++ {
		for part := range len(wholeOf(9, anew...)) + 2 {
			d := disk.New()
			j, _, _, _ := journal.Open(d)
			j.Append(old...)
			j.Sync()
			d.Arm(n, part)
			e := j.Rewrite(9, anew...)
			if (e == api.OK) != (n == 4) {
				t.Fatalf("Rewrite = %d", e)
			}
			for _, choices := range [][]int{nil, {-1}, {part}, {part / 2}, {-1, -1}} {
				f := d.Crash(choices...)
				_, next, changes, e := journal.Open(f)
				isOld := slices.Equal(changes, old) && next == 129
				isNew := slices.Equal(changes, anew) && next == 201
				if e != api.OK || !isOld && !isNew || n == 4 && !isNew {
					t.Fatalf("Open = %d, %v, %d", next, changes, e)
				}
			}
		}
	}
}

// P19.2, P7: by chance, through many losses of power, in calls and in Opens; what was found becomes what lasts.
func TestManyLosses(t *testing.T) {
	chance := rand.New(rand.NewPCG(19, 3))
	inOpen, inCalls := 0, 0
	for range 1500 {
		d := disk.New()
		h := history{head: 1}
		for range 10 {
			if chance.IntN(3) > 0 {
				d.Arm(1+chance.IntN(12), chance.IntN(150))
			}
			j, next, changes, e := journal.Open(d)
			if e == api.OK {
				if !h.allows(next, changes) {
					t.Fatalf("Open = %d, %v; behind %+v", next, changes, h)
				}
				h = history{head: next, lasting: changes}
				if headNumber(t, d) < next {
					h.head = headNumber(t, d)
				}
				inCalls += someCalls(chance, j, &h)
			} else if e == api.ErrDown {
				inOpen++
			} else {
				t.Fatal(e)
			}
			d = d.Crash(chance.IntN(200), chance.IntN(200))
		}
	}
	if inOpen < 1000 || inCalls < 1000 {
		t.Errorf("the power went %d times in Open, %d times in other calls", inOpen, inCalls)
	}
}

// headNumber is the number of the head of a disk's journal.
func headNumber(t *testing.T, d *disk.Disk) int {
	t.Helper()
	b, e := d.Read("journal")
	next, _, _, ok := readWhole(b)
	if e != api.OK || !ok {
		t.Fatal(e, ok)
	}
	return next
}

// someCalls does a few, and tells how often the power went.
func someCalls(chance *rand.Rand, j *journal.Journal, h *history) int {
	for range chance.IntN(8) {
		do := appending(someChanges(chance)...)
		switch chance.IntN(6) {
		case 0, 1:
			do = syncing()
		case 2:
			do = rewriting(1+chance.IntN(1<<chance.IntN(41)), someChanges(chance)...)
		}
		if do(j, h) == api.ErrDown {
			return 1
		}
	}
	return 0
}
