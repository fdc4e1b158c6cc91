package parse_test

import (
	"math/rand"
	"slices"
	"strconv"
	"strings"
	"testing"

	"trommel/api"
	"trommel/lex"
	"trommel/parse"
	"trommel/tree"
	"trommel/value"
)

// language is the chapter's, rule by rule, each repetition written as a rule that begins with itself.
var language = map[string][][]string{
	"or":    {{"and"}, {"or", "|", "and"}},
	"and":   {{"one"}, {"and", "&", "one"}},
	"one":   {{"!", "one"}, {"(", "or", ")"}, {"pred"}},
	"pred":  {{"name", "{", "ints", "}"}, {"name", "{", "words", "}"}, {"name", "[", "int", ",", "int", "]"}, {"name", "word", "*"}},
	"ints":  {{"int"}, {"ints", ",", "int"}},
	"words": {{"word"}, {"words", ",", "word"}},
}

// terminals are the language's, each with a token of that kind.
var terminals = []struct{ kind, text string }{
	{"name", "a"}, {"int", "7"}, {"word", `"}"`}, {"{", "{"}, {"}", "}"}, {"[", "["}, {"]", "]"}, {"(", "("}, {")", ")"}, {",", ","}, {"!", "!"}, {"|", "|"}, {"&", "&"}, {"*", "*"},
}

// item is a rule that is being read: which one, how far, and where it began.
type item struct {
	rule          string
	way, dot, was int
}

// reading is Earley's: behind each token the items that may be under way. It knows nothing of how Parse reads.
type reading [][]item

func begin() reading { return reading{}.with(nil, "or") }

// with adds a set of items, closed under the rules that may begin there and those that have ended there.
func (r reading) with(set []item, first string) reading {
	here := len(r)
	seen := map[item]int{}
	add := func(it item) {
		if seen[it] == 0 {
			seen[it] = 1
			set = append(set, it)
		}
	}
	expect := func(rule string) {
		for way := range language[rule] {
			add(item{rule, way, 0, here})
		}
	}
	expect(first)
	for i := 0; i < len(set); i++ {
		it := set[i]
		if next, more := it.next(); more {
			expect(next)
			continue
		}
		for _, older := range slices.Clone(append(slices.Clone(r), set)[it.was]) {
			if next, more := older.next(); more && next == it.rule {
				older.dot++
				add(older)
			}
		}
	}
	return append(slices.Clip(r), set)
}

func (it item) next() (string, bool) {
	way := language[it.rule][it.way]
	if it.dot == len(way) {
		return "", false
	}
	return way[it.dot], true
}

// step reads a token of a kind; false, if no text of the language goes on with it.
func (r reading) step(kind string) (reading, bool) {
	var moved []item
	for _, it := range r[len(r)-1] {
		if next, more := it.next(); more && next == kind {
			it.dot++
			moved = append(moved, it)
		}
	}
	if len(moved) == 0 {
		return nil, false
	}
	return r.with(moved, ""), true
}

// done tells whether what was read is a text of the language.
func (r reading) done() bool {
	return slices.ContainsFunc(r[len(r)-1], func(it item) bool {
		_, more := it.next()
		return it.rule == "or" && it.was == 0 && !more
	})
}

// wantTree is the tree of tokens that are a text of the language, by splitting them from the outside.
func wantTree(tokens []api.Token) api.Node {
	for _, sign := range []string{"|", "&"} {
		var kids []api.Node
		level, from := 0, 0
		for i, token := range tokens {
			switch {
			case isSign(token, "("):
				level++
			case isSign(token, ")"):
				level--
			case isSign(token, sign) && level == 0:
				kids = append(kids, wantTree(tokens[from:i]))
				from = i + 1
			}
		}
		if from > 0 {
			op := map[string]int{"|": api.OpOr, "&": api.OpAnd}[sign]
			return api.Node{Op: op, Kids: append(kids, wantTree(tokens[from:]))}
		}
	}
	switch {
	case isSign(tokens[0], "!"):
		return api.Node{Op: api.OpNot, Kids: []api.Node{wantTree(tokens[1:])}}
	case isSign(tokens[0], "("):
		return wantTree(tokens[1 : len(tokens)-1])
	}
	return wantPred(tokens)
}

func isSign(token api.Token, sign string) bool {
	return token.Kind == api.TokSign && token.Text == sign
}

func wantPred(tokens []api.Token) api.Node {
	out := api.Node{Op: api.OpPred, Pred: api.Pred{Attr: tokens[0].Text}}
	for _, token := range tokens[1:] {
		switch token.Kind {
		case api.TokInt:
			out.Kind = api.PredInts
			out.Ints = append(out.Ints, token.Int)
		case api.TokWord:
			out.Kind = api.PredWords
			out.Words = append(out.Words, token.Text)
		}
	}
	switch last := tokens[len(tokens)-1]; {
	case isSign(last, "]"):
		out.Kind, out.Lo, out.Hi, out.Ints = api.PredRange, out.Ints[0], out.Ints[1], nil
	case isSign(last, "*"):
		out.Kind = api.PredPrefix
	}
	return out
}

// hold holds Parse of a text that has tokens, no list of them too long, to the language.
func hold(t *testing.T, text string) bool {
	t.Helper()
	tokens, _, e := lex.Tokens(text)
	if e != api.OK {
		t.Fatalf("%q has no tokens", text)
	}
	r := begin()
	for _, token := range tokens {
		kind := []string{"", "name", "int", "word", token.Text}[token.Kind]
		next, ok := r.step(kind)
		if !ok {
			refuse(t, text, token.From)
			return false
		}
		r = next
	}
	if !r.done() {
		refuse(t, text, len(text))
		return false
	}
	accept(t, text, wantTree(tokens))
	return true
}

// P5.1: of all beginnings of texts of up to some tokens, with each token behind them, Parse takes and refuses as the language does.
func TestAllBeginnings(t *testing.T) {
	taken, refused := 0, 0
	var grow func(r reading, text string, more int)
	grow = func(r reading, text string, more int) {
		if t.Failed() {
			return
		}
		if r.done() {
			taken++
			tokens, _, _ := lex.Tokens(text)
			accept(t, text, wantTree(tokens))
		} else {
			refuse(t, text, len(text))
		}
		for _, token := range terminals {
			next, ok := r.step(token.kind)
			switch {
			case ok && more > 0:
				grow(next, text+token.text+" ", more-1)
			case !ok:
				refused++
				refuse(t, text+token.text, len(text))
				refuse(t, text+"\n\t"+token.text+" ) a {7} & 7", len(text)+2)
			}
		}
	}
	grow(begin(), "", 10)
	if taken < 300 || refused < 100000 {
		t.Errorf("only %d taken, %d refused", taken, refused)
	}
}

// drawn is a tree in form, drawn at random.
func drawn(r *rand.Rand, depth int) api.Node {
	if op := r.Intn(7); depth > 1 && op < 5 {
		kids := make([]api.Node, 2+r.Intn(2))
		for i := range kids {
			kids[i] = drawn(r, depth-1)
		}
		switch op {
		case 0, 1:
			return api.Node{Op: api.OpAnd, Kids: kids}
		case 2, 3:
			return api.Node{Op: api.OpOr, Kids: kids}
		}
		return api.Node{Op: api.OpNot, Kids: kids[:1]}
	}
	names := []string{"a", "b_2", "tag", strings.Repeat("n", 32)}
	pred := api.Pred{Kind: 1 + r.Intn(4), Attr: names[r.Intn(len(names))]}
	count := 1 + r.Intn(4)
	numbers := []int{0, 1, -1, 9, 10, -307, api.Least, api.Most, r.Intn(1 << 31), -r.Intn(1 << 31)}
	words := []string{"", "x", "x y", `"`, `\`, "\x00\xff", "{1, 2}", "& !", "ä", strings.Repeat("w", 64)}
	switch pred.Kind {
	case api.PredInts:
		for range count {
			pred.Ints = append(pred.Ints, numbers[r.Intn(len(numbers))])
		}
	case api.PredRange:
		pred.Lo, pred.Hi = numbers[r.Intn(len(numbers))], numbers[r.Intn(len(numbers))]
	case api.PredPrefix:
		count = 1
		fallthrough
	default:
		for range count {
			pred.Words = append(pred.Words, words[r.Intn(len(words))])
		}
	}
	return api.Node{Op: api.OpPred, Pred: pred}
}

// texts calls f with trees and their one texts, alike in each run; not behind a fault, for one is enough to tell.
func texts(t *testing.T, count int, f func(r *rand.Rand, n api.Node, text string)) {
	t.Helper()
	r := rand.New(rand.NewSource(5))
	short := 0
	for i := range count {
		n := drawn(r, 1+i%5)
		text, e := tree.Text(n)
		if e != api.OK {
			t.Fatalf("%v has no text", n)
		}
		if len(text) <= api.MaxText && !t.Failed() {
			short++
			f(r, n, text)
		}
	}
	if short < count*9/10 && !t.Failed() {
		t.Errorf("only %d texts of %d weren't too long", short, count)
	}
}

// P5.2: Parse(Text(n)) is n, at the edges of a predicate's form too.
func TestParseOfText(t *testing.T) {
	texts(t, 20000, func(_ *rand.Rand, n api.Node, text string) { accept(t, text, n) })
	for _, n := range []api.Node{
		tree.Ints("a", slices.Repeat([]int{api.Least}, 64)...), tree.Words("a", slices.Repeat([]string{`x"y`}, 64)...), tree.Words("a", make([]string, 64)...),
		tree.Prefix("a", strings.Repeat("\xff", 64)), tree.Range("a", api.Most, api.Least), tree.Ints(strings.Repeat("z", 32), 0),
		tree.Or(tree.Or(a1, b2), tree.Or(b2, a1)), tree.And(tree.And(a1, b2), tree.And(b2, a1)), tree.Not(tree.Not(tree.Or(a1, tree.Not(tree.And(a1, b2))))),
	} {
		text, e := tree.Text(n)
		if e != api.OK {
			t.Fatal(n, e)
		}
		accept(t, text, n)
	}
}

// P5.2: a tree whose text has just 4096 bytes comes back; with one more byte it is refused.
func TestParseOfLongestText(t *testing.T) {
	for name := 8; name <= 32; name++ {
		words := slices.Repeat([]api.Node{tree.Prefix("c", strings.Repeat("w", 60))}, 59)
		n := tree.And(tree.Or(words...), tree.Ints(strings.Repeat("n", name), 1), tree.Prefix("d", ""))
		text, _ := tree.Text(n)
		pad := strings.Repeat("w", api.MaxText-len(text))
		n.Kids[2].Words[0] = pad
		text, e := tree.Text(n)
		if e != api.OK || len(text) != api.MaxText {
			t.Fatal(e, len(text))
		}
		accept(t, text, n)
		n.Kids[2].Words[0] = pad + "w"
		text, e = tree.Text(n)
		if e != api.OK {
			t.Fatal(e)
		}
		refuse(t, text, api.MaxText)
	}
}

// loose are pieces in another way: with blanks between, or none where none is needed.
func loose(r *rand.Rand, pieces []string) string {
	blanks := []string{"", "", " ", "\n", "\t\t", "\r\n", "   "}
	text := blanks[r.Intn(len(blanks))]
	for i, piece := range pieces {
		text += piece
		between := blanks[r.Intn(len(blanks))]
		// Two names or numbers that meet would be one; the language has none side by side, but a wrong text may.
		if between == "" && i+1 < len(pieces) && wordy(piece) && wordy(pieces[i+1]) {
			between = " "
		}
		text += between
	}
	return text
}

func wordy(piece string) bool {
	return strings.Trim(piece, "-_abcdefghijklmnopqrstuvwxyz0123456789") == ""
}

// split are the tokens of a text, as they are written there.
func split(t *testing.T, text string) []string {
	t.Helper()
	tokens, _, e := lex.Tokens(text)
	if e != api.OK {
		t.Fatalf("%q has no tokens", text)
	}
	var out []string
	for _, token := range tokens {
		out = append(out, text[token.From:token.To])
	}
	return out
}

// P5.3: blanks between the tokens and parentheses round the whole change nothing.
func TestBlanksAndParentheses(t *testing.T) {
	texts(t, 10000, func(r *rand.Rand, n api.Node, text string) {
		pieces := split(t, text)
		for range r.Intn(4) {
			pieces = slices.Concat([]string{"("}, pieces, []string{")"})
		}
		if other := loose(r, pieces); len(other) <= api.MaxText {
			accept(t, other, n)
		}
	})
}

// P5.2: what Parse takes is in form, and its text parsed again is the same tree; parentheses within, which its text needn't have, are no trouble.
func TestTextOfParse(t *testing.T) {
	texts(t, 10000, func(r *rand.Rand, n api.Node, _ string) {
		text := bracketed(r, n)
		if len(text) > api.MaxText {
			return
		}
		got, p, e := parse.Parse(text)
		if e != api.OK || p != 0 || tree.Check(got) != api.OK || !tree.Same(got, n) {
			t.Fatalf("Parse(%q) = %v, %d, %d, not %v", text, got, p, e, n)
		}
		again, f := tree.Text(got)
		if f != api.OK {
			t.Fatalf("Text of %v: %d", got, f)
		}
		accept(t, again, got)
	})
}

// bracketed is a text of a tree with parentheses round every kid, and round some of them twice.
func bracketed(r *rand.Rand, n api.Node) string {
	var kids []string
	for _, kid := range n.Kids {
		text := "(" + bracketed(r, kid) + ")"
		if r.Intn(3) == 0 {
			text = "(" + text + ")"
		}
		kids = append(kids, text)
	}
	switch n.Op {
	case api.OpNot:
		return "!" + kids[0]
	case api.OpAnd:
		return strings.Join(kids, "&")
	case api.OpOr:
		return strings.Join(kids, "|")
	}
	text, _ := tree.Text(n)
	return text
}

// spoilt are the pieces of a text with one left out, one put in, one changed, two changed for each other, or the rest cut off.
func spoilt(r *rand.Rand, pieces []string) []string {
	out := slices.Clone(pieces)
	at := r.Intn(len(out))
	other := terminals[r.Intn(len(terminals))].text
	switch r.Intn(5) {
	case 0:
		return slices.Delete(out, at, at+1)
	case 1:
		return slices.Insert(out, at, other)
	case 2:
		out[at] = other
	case 3:
		with := r.Intn(len(out))
		out[at], out[with] = out[with], out[at]
	case 4:
		return out[:at]
	}
	return out
}

// P5.1, P5.4: texts that are nearly right are refused where the language says so, and all texts with the same tokens up to there too.
func TestSpoiltTexts(t *testing.T) {
	taken, refused := 0, 0
	texts(t, 10000, func(r *rand.Rand, _ api.Node, text string) {
		pieces := spoilt(r, split(t, text))
		text = loose(r, pieces)
		// What is asked of every text here takes long for a long one.
		if len(text) > 400 {
			return
		}
		if hold(t, text) {
			taken++
			return
		}
		_, place, _ := parse.Parse(text)
		if place == len(text) {
			return
		}
		refused++
		count := len(split(t, text[:place]))
		for range 3 {
			ahead := loose(r, pieces[:count]) + " "
			rest := ""
			for range r.Intn(6) {
				rest += " " + terminals[r.Intn(len(terminals))].text
			}
			refuse(t, ahead+pieces[count]+rest, len(ahead))
		}
	})
	if taken < 300 || refused < 2000 {
		t.Errorf("only %d taken, %d refused", taken, refused)
	}
}

// P5.4: a 65th member is refused there, whatever follows it.
func TestBehindTheLastMember(t *testing.T) {
	for _, member := range []string{strconv.Itoa(-5), value.Quote("x")} {
		open := "!a {" + strings.Repeat(member+" , ", 64)
		for _, rest := range []string{"", "}", ", " + member, " & a {1}", " ) ( *", "} & a {1}", strings.Repeat(" , "+member, 200)} {
			refuse(t, open+member+rest, len(open))
			refuse(t, "\n"+open+"\t"+member+" "+rest, len(open)+2)
		}
	}
}
