package shell_test

import (
	"fmt"
	"math/rand/v2"
	"slices"
	"strings"
	"testing"

	"trommel/api"
	"trommel/book"
	"trommel/schema"
	"trommel/shell"
)

// found is a registry that a system may have begun with: what makes it, and its next number.
type found struct {
	changes []api.Change
	next    int
}

// judge holds what was told of a script against a book, system by system. What
// a crash has left isn't told: it goes on with all registries that may have been
// found, till what is told later rules them out.
type judge struct {
	t    *testing.T
	c    api.Config
	s    *schema.Schema
	may  []found
	rows [api.MaxUsers][]api.Call // what was submitted to this system
}

func (j *judge) book(f found) *book.Book {
	j.t.Helper()
	b := book.New(j.c.Limits, j.s)
	if b.Apply(f.changes...) != api.OK || b.Start(f.next) != api.OK {
		j.t.Fatal("a registry that may be found isn't one")
	}
	return b
}

// answerText is how an answer is told.
func answerText(a api.Answer) string {
	switch {
	case a.Code != api.OK:
		return fmt.Sprintf("refused %d", a.Code)
	case a.ID > 0:
		return fmt.Sprintf("number %d", a.ID)
	case len(a.IDs) > 0:
		return strings.TrimSuffix("meets "+strings.Trim(fmt.Sprint(a.IDs), "[]"), " ")
	}
	return "ok"
}

// behind are the registries that may be found behind a system that began with
// one, and whether it could have told what it did.
func (j *judge) behind(f found, told system) ([]found, bool) {
	b := j.book(f)
	var taken [api.MaxUsers]int
	after := []found{f}
	lasting := 0 // behind so many takes the registry has all that was received
	for i, who := range told.order {
		if taken[who] >= len(j.rows[who]) {
			j.t.Fatalf("of the user %d more was taken than it submitted", who)
		}
		answer := answerText(b.Do(j.rows[who][taken[who]])[0])
		if received := told.received[who]; taken[who] < len(received) {
			if received[taken[who]] != answer {
				return nil, false
			}
			lasting = i + 1
		}
		taken[who]++
		after = append(after, found{b.Changes(), b.Next()})
	}
	for who, received := range told.received {
		if len(received) > taken[who] {
			j.t.Fatalf("the user %d has received %d answers to %d calls", who, len(received), taken[who])
		}
	}
	if told.last != "down" {
		return after[lasting:], told.last == fmt.Sprintf("registry %d %d %d", b.Subs(), b.Total(), b.Next())
	}
	// The call in whose take the power went may be anybody's.
	for who, row := range j.rows {
		if taken[who] < len(row) {
			more := j.book(found{b.Changes(), b.Next()})
			more.Do(row[taken[who]])
			after = append(after, found{more.Changes(), more.Next()})
		}
	}
	return after[lasting:], true
}

// hear holds what a system has told, and goes on with what may be found.
func (j *judge) hear(told system) {
	j.t.Helper()
	var after []found
	known := map[string]int{}
	could := 0
	for _, f := range j.may {
		list, ok := j.behind(f, told)
		if !ok {
			continue
		}
		could++
		for _, one := range list {
			if key := fmt.Sprint(one); known[key] == 0 {
				known[key]++
				after = append(after, one)
			}
		}
	}
	if could == 0 {
		j.t.Fatalf("no registry of %v tells %v of %v", j.may, told, j.rows)
	}
	j.may, j.rows = after, [api.MaxUsers][]api.Call{}
}

// judged holds all that is told of a script.
func judged(t *testing.T, s api.Script) reading {
	t.Helper()
	r := read(t, s, shell.Run(textOf(t, s)))
	attrs, _ := schema.New(s.Attrs...)
	j := &judge{t: t, c: s.Config, s: attrs, may: []found{{nil, 1}}}
	heard := 0
	for i, o := range s.Ops {
		switch {
		case o.Kind == api.OpCrash:
			j.hear(r.systems[heard])
			heard++
		case o.Kind == api.OpCall && r.ops[i] == "ok":
			j.rows[o.Who] = append(j.rows[o.Who], o.Call)
		}
	}
	j.hear(r.systems[heard])
	return r
}

// P5, P7: whatever is submitted and picked, and wherever the power goes: what is told is what one registry answers to the calls in the order of the takes; behind a crash it is the registry behind some first ones of them, all that were received among them.
func TestOneRegistry(t *testing.T) {
	chance := rand.New(rand.NewPCG(26, 2))
	answers, downs, crashes := map[string]int{}, 0, 0
	for range 700 {
		r := judged(t, someScript(chance, chance.IntN(150)))
		crashes += len(r.systems) - 1
		for _, told := range r.systems {
			if told.last == "down" {
				downs++
			}
			for _, received := range told.received {
				for _, a := range received {
					word, number, _ := strings.Cut(a, " ")
					if word == "refused" {
						word = number
					}
					answers[word]++
				}
			}
		}
	}
	for _, a := range []string{"ok", "number", "meets", "10", "12", "13", "14", "15"} {
		if answers[a] < 30 {
			t.Errorf("%s: %d times only", a, answers[a])
		}
	}
	for a := range answers {
		if !slices.Contains([]string{"ok", "number", "meets", "10", "11", "12", "13", "14", "15"}, a) {
			t.Errorf("answered with %s", a)
		}
	}
	if downs < 300 || crashes < 2000 {
		t.Errorf("%d systems were down, %d crashed", downs, crashes)
	}
}

// P7: the power goes at every act of a script, with every number of bytes, and several choices of what is found.
func TestEveryAct(t *testing.T) {
	head := lines("config 9 9 9 9 2 2 2 2", "attr a int")
	const deeds = "call 0 sub \"a {1}\"\ncall 1 sub \"a {2}\"\nstep 0 0 0 0\ncall 0 replace 1 \"a {3}\"\ntidy\ncall 1 unsub 2\ndrain\n"
	look := []string{"call 0 match a=1", "call 0 match a=2", "call 0 match a=3", "drain"}
	// What the registry has behind each of the changes, as the matches tell it.
	states := []string{"ok ok ok", "meets 1 ok ok", "meets 1 meets 2 ok", "ok meets 2 meets 1", "ok ok meets 1"}
	seen := map[string]int{}
	for n := 1; n <= 9; n++ {
		for _, part := range []int{0, 1, 7, 12, 13, 14, 20, 40, 100} {
			for _, crash := range []string{"crash", "crash -1", "crash 13", "crash 0 -1", "crash -1 -1", "crash 5 14"} {
				told := shell.Run(head + fmt.Sprintf("arm %d %d\n", n, part) + deeds + crash + "\ncrash\n" + lines(look...))
				_, last, _ := strings.Cut(told, "\n10 ok\n")
				state := strings.Join(strings.Split(strings.ReplaceAll(last, "user 0 ", ""), "\n")[4:7], " ")
				if !slices.Contains(states, state) {
					t.Fatalf("armed with %d and %d, then %s: %s", n, part, crash, told)
				}
				seen[state]++
				// The changes whose answers were received are there.
				if strings.Contains(told, "user 1 ok") && state != states[4] || strings.Contains(told, "user 0 ok\nuser 1") && state != states[3] && state != states[4] {
					t.Fatalf("armed with %d and %d, then %s, what was received is lost: %s", n, part, crash, told)
				}
			}
		}
	}
	for _, state := range states {
		if seen[state] == 0 {
			t.Errorf("%s was never found: %v", state, seen)
		}
	}
}

// unmoved is what is told, but for how many steps were done.
func unmoved(told string) string {
	var kept []string
	for _, line := range strings.Split(told, "\n") {
		if !strings.Contains(line, " moved ") {
			kept = append(kept, line)
		}
	}
	return strings.Join(kept, "\n")
}

// P8: the number of shards, the room of queues and windows change nothing but how many steps are done: one user that submits much at once, and several that wait for one another.
func TestShardsAreNobodysBusiness(t *testing.T) {
	chance := rand.New(rand.NewPCG(26, 3))
	for round := range 40 {
		users := 1
		if round%2 == 0 {
			users = 1 + chance.IntN(4)
		}
		s := someScript(chance, 0)
		s.Config.Users = users
		for range 40 {
			s.Ops = append(s.Ops, api.Op{Kind: api.OpCall, Who: chance.IntN(users), Call: someCall(chance)})
			if users > 1 || chance.IntN(6) == 0 {
				s.Ops = append(s.Ops, api.Op{Kind: api.OpDrain})
			}
			if chance.IntN(12) == 0 {
				s.Ops = append(s.Ops, api.Op{Kind: api.OpDrain}, someOf(chance, api.Op{Kind: api.OpTidy}, api.Op{Kind: api.OpCrash, Nums: someNums(chance, 2)}))
			}
		}
		s.Ops = append(s.Ops, api.Op{Kind: api.OpDrain})
		want := unmoved(shell.Run(textOf(t, s)))
		for _, n := range [][3]int{{1, 1, 1}, {8, 1, 1}, {1, 16, 16}, {8, 16, 16}, {3, 2, 5}, {2, 5, 2}, {7, 1, 16}, {4, 16, 1}, {0, -1, 99}} {
			s.Config.Shards, s.Config.Queue, s.Config.Window = n[0], n[1], n[2]
			if got := unmoved(shell.Run(textOf(t, s))); got != want {
				t.Fatalf("of %v with %v is told\n%s\nand not\n%s", s, n, got, want)
			}
		}
	}
}
