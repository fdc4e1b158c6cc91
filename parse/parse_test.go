package parse_test

import (
	"cmp"
	"math"
	"slices"
	"strconv"
	"strings"
	"testing"
	"unsafe"

	"trommel/api"
	"trommel/parse"
	"trommel/schema"
	"trommel/tree"
)

// accept holds Parse to a tree, to the place 0 and to OK.
func accept(t *testing.T, text string, want api.Node) {
	t.Helper()
	if n, p, e := parse.Parse(text); e != api.OK || p != 0 || !tree.Same(n, want) {
		t.Errorf("Parse(%.80q) = %v, %d, %d, not %v", text, n, p, e, want)
	}
}

// refuse holds Parse to ErrSyntax at a place, beside which the node is zero (rule 3).
func refuse(t *testing.T, text string, place int) {
	t.Helper()
	if n, p, e := parse.Parse(text); e != api.ErrSyntax || p != place || !tree.Same(n, api.Node{}) {
		t.Errorf("Parse(%.80q) = %v, %d, %d, not refused at %d", text, n, p, e, place)
	}
}

var (
	a1 = tree.Ints("a", 1)
	b2 = tree.Range("b", 2, 3)
	cx = tree.Prefix("c", "x")
)

// P5.1: the tree of a text, the chapter's examples among them.
func TestTreeOfText(t *testing.T) {
	for text, want := range map[string]api.Node{
		`a {1, 2} & !c "x"* | b [0, 9]`:        tree.Or(tree.And(tree.Ints("a", 1, 2), tree.Not(tree.Prefix("c", "x"))), tree.Range("b", 0, 9)),
		"(a {1})":                              a1,
		"!!a {1}":                              tree.Not(tree.Not(a1)),
		"a {1}":                                a1,
		"b [2, 3]":                             b2,
		`c "x"*`:                               cx,
		"a {3, 1, 3, -2}":                      tree.Ints("a", 3, 1, 3, -2),
		`c {"y", "", "y"}`:                     tree.Words("c", "y", "", "y"),
		"a {0}":                                tree.Ints("a", 0),
		"a {-2147483648, 2147483647}":          tree.Ints("a", api.Least, api.Most),
		"a [9, -5]":                            tree.Range("a", 9, -5),
		"a [2147483647, -2147483648]":          tree.Range("a", api.Most, api.Least),
		"a [0, 0]":                             tree.Range("a", 0, 0),
		`c ""*`:                                tree.Prefix("c", ""),
		`c {"{", "}", ",", "*", "&", "\x00"}`:  tree.Words("c", "{", "}", ",", "*", "&", "\x00"),
		`c "("* & c "!"*`:                      tree.And(tree.Prefix("c", "("), tree.Prefix("c", "!")),
		`c {"a {1}"}`:                          tree.Words("c", "a {1}"),
		"a {1} & b [2, 3] & a {1}":             tree.And(a1, b2, a1),
		"a {1} | b [2, 3] | a {1}":             tree.Or(a1, b2, a1),
		`a {1} | b [2, 3] & c "x"*`:            tree.Or(a1, tree.And(b2, cx)),
		`a {1} & b [2, 3] | c "x"*`:            tree.Or(tree.And(a1, b2), cx),
		`(a {1} | b [2, 3]) & c "x"*`:          tree.And(tree.Or(a1, b2), cx),
		`a {1} & (b [2, 3] | c "x"*)`:          tree.And(a1, tree.Or(b2, cx)),
		`(a {1} & b [2, 3]) & c "x"*`:          tree.And(tree.And(a1, b2), cx),
		`a {1} & (b [2, 3] & c "x"*)`:          tree.And(a1, tree.And(b2, cx)),
		`(a {1} | b [2, 3]) | c "x"*`:          tree.Or(tree.Or(a1, b2), cx),
		`a {1} | (b [2, 3] | c "x"*)`:          tree.Or(a1, tree.Or(b2, cx)),
		`(a {1} & b [2, 3]) | c "x"*`:          tree.Or(tree.And(a1, b2), cx),
		"!a {1} & b [2, 3]":                    tree.And(tree.Not(a1), b2),
		"!(a {1} & b [2, 3])":                  tree.Not(tree.And(a1, b2)),
		"!a {1} | !b [2, 3]":                   tree.Or(tree.Not(a1), tree.Not(b2)),
		"!(!(a {1}))":                          tree.Not(tree.Not(a1)),
		"((a {1}) & ((b [2, 3])))":             tree.And(a1, b2),
		"a{1}&b[2,3]|!c\"x\"*":                 tree.Or(tree.And(a1, b2), tree.Not(cx)),
		"\r\n a\t{\n1\r}\t":                    a1,
		"a {1} ":                               a1,
		`c "x" *`:                              cx,
		"a {1,-1}":                             tree.Ints("a", 1, -1),
		strings.Repeat("n", 32) + " {1}":       tree.Ints(strings.Repeat("n", 32), 1),
		`c "` + strings.Repeat("w", 64) + `"*`: tree.Prefix("c", strings.Repeat("w", 64)),
	} {
		accept(t, text, want)
	}
}

// P5.1: texts that are refused, and where, the chapter's examples among them.
func TestRefused(t *testing.T) {
	for text, place := range map[string]int{
		"": 0, "a": 1, "a {}": 3, "a {1 2}": 5, `a {1, "x"}`: 6, "a [1]": 4, `c "x"`: 5, "a {1} b {2}": 6, "(a {1}": 6, "a {1}) = ": 7,
		" ": 1, "\n\t\r ": 4, "a ": 2, "a {1} & ": 8, "a {1 ": 5, "a {1, ": 6,
		"a {1})": 5, "a {1} )": 6, "a {1}}": 5, "a {1}]": 5, "a {1},": 5, "a {1}*": 5, "a {1} 1": 6, `a {1} "x"`: 6, "a {1} !a {1}": 6, "a {1} (a {1})": 6, "a {1} {1}": 6, "a {1} [1, 2]": 6,
		"a b {1}": 2, "a 1": 2, "a & b {1}": 2, "a (": 2, "a *": 2, "a !": 2, "a }": 2, "a , 1": 2,
		"a {,": 3, "a {1,}": 5, "a {1,,2}": 5, `a {"x", 1}`: 8, `a {"x" "y"}`: 7, "a {b}": 3, "a {(1)}": 3, "a {1]": 4, "a {!1}": 3, "a {1}*}": 5, `a {"x"*}`: 6, "a {[1, 2]}": 3,
		"a []": 3, "a [1": 4, "a [1,": 5, "a [1,]": 5, "a [1, 2": 7, "a [1, 2, 3]": 7, "a [1, 2}": 7, "a [1 2]": 5, `a ["x", "y"]`: 3, `a [1, "x"]`: 6, "a [,1]": 3,
		`a "x"`: 5, `a "x" "y"*`: 6, `a "x", "y"*`: 5, `a "x"}`: 5, `a "x"**`: 6, `a "x"!`: 5,
		"& a {1}": 0, "| a {1}": 0, "a {1} &": 7, "a {1} |": 7, "a {1} & & a {1}": 8, "a {1} & | a {1}": 8, "a {1} | & a {1}": 8, "a {1} & )": 8,
		"!": 1, "!!": 2, "!)": 1, "!&": 1, "! 1": 2, "!*": 1,
		"(": 1, "()": 1, ")": 0, "(a {1}))": 7, "((a {1})": 8, "(a {1}]": 6, "(a {1} b {2})": 7, "(!)": 2, "(a {1} &)": 8, "(a {1}, b {2})": 6,
		"1": 0, `"x"*`: 0, "{1}": 0, "[1, 2]": 0, "*": 0, ",": 0, "}": 0, "]": 0, "a1": 2, "1a {1}": 0, "12ab {1}": 0,
		`a {"}`: 3, "a {01}": 3, "A {1}": 0, "a {2147483648}": 3, "a = 1": 2, ") ) =": 4, "a {} =": 5, strings.Repeat("n", 33) + " {1}": 0, `a "` + strings.Repeat("w", 65) + `"*`: 2,
	} {
		refuse(t, text, place)
	}
}

// members are the text of a predicate with some members, and the place where the last one begins.
func members(count int, member string) (string, int) {
	text := "a {" + strings.Repeat(member+", ", count-1)
	return text + member + "}", len(text)
}

// P5.1: 64 members and a 65th, numbers and words.
func TestMembers(t *testing.T) {
	for _, count := range []int{1, 2, 63, 64} {
		text, _ := members(count, "-7")
		accept(t, text, tree.Ints("a", slices.Repeat([]int{-7}, count)...))
		text, _ = members(count, `"x"`)
		accept(t, text, tree.Words("a", slices.Repeat([]string{"x"}, count)...))
	}
	for _, member := range []string{"1", `"x"`} {
		full, _ := members(64, member)
		open := strings.TrimSuffix(full, "}")
		for _, count := range []int{65, 66, 500} {
			text, _ := members(count, member)
			refuse(t, text, len(open)+2)
			refuse(t, "!("+text+" & ", 2+len(open)+2)
		}
		for rest, behind := range map[string]int{
			"": 0, ",": 1, ", ": 2, ", }": 2, ",}": 1, ", ,": 2, ", a": 2, ", 1": 2, `, "x"`: 2, ", 1 1": 2, " 1": 1, "]": 0,
			", 1, 1, }": 2, `, "x"}`: 2, "\n,\n1": 3,
		} {
			refuse(t, open+rest, len(open)+behind)
		}
		// Each predicate has members of its own: those of another don't count.
		if _, _, e := parse.Parse(full + " & " + full + " | !" + full); e != api.OK {
			t.Errorf("three predicates of 64 members each: %d", e)
		}
	}
	numbers := make([]int, 64)
	var texts []string
	for i := range numbers {
		numbers[i] = i*i - 50*i
		texts = append(texts, strconv.Itoa(numbers[i]))
	}
	accept(t, "a {"+strings.Join(texts, ",")+"}", tree.Ints("a", numbers...))
}

// P5.1: a text of 4096 bytes and of 4097, and texts as deep and as broad as fit.
func TestLongTexts(t *testing.T) {
	blanks := strings.Repeat(" ", api.MaxText)
	for _, text := range []string{blanks[5:] + "a {1}", "a {1}" + blanks[5:], "a" + blanks[4:] + "{1}", "a {" + blanks[5:] + "1}"} {
		accept(t, text, a1)
		refuse(t, text+" ", api.MaxText)
		refuse(t, " "+text, api.MaxText)
		refuse(t, text+text, api.MaxText)
		refuse(t, text+"=", api.MaxText)
		refuse(t, "="+text, api.MaxText)
	}
	refuse(t, blanks, api.MaxText)
	refuse(t, blanks[1:]+"a", api.MaxText)
	refuse(t, blanks[1:]+")", api.MaxText-1)
	refuse(t, blanks+"a {1}", api.MaxText)
	for _, sign := range []string{"!", "("} {
		refuse(t, strings.Repeat(sign, api.MaxText), api.MaxText)
		refuse(t, strings.Repeat(sign, api.MaxText-1)+"]", api.MaxText-1)
		refuse(t, strings.Repeat(sign, api.MaxText+1), api.MaxText)
	}
	deep := a1
	for range api.MaxText - 5 {
		deep = api.Node{Op: api.OpNot, Kids: []api.Node{deep}}
	}
	accept(t, strings.Repeat("!", api.MaxText-5)+"a {1}", deep)
	accept(t, strings.Repeat("(", 2045)+"a {1}"+strings.Repeat(")", 2045), a1)
	refuse(t, strings.Repeat("(", 2045)+"a {1}"+strings.Repeat(")", 2046), 4095)
	refuse(t, strings.Repeat("(", 2046)+"a {1}"+strings.Repeat(")", 2045), 4096)
	for sign, join := range map[string]func(...api.Node) api.Node{"&": tree.And, "|": tree.Or} {
		text := strings.TrimSuffix(strings.Repeat("a{1}"+sign, 819), sign)
		accept(t, text, join(slices.Repeat([]api.Node{a1}, 819)...))
		refuse(t, text+sign, 819*5)
	}
}

// P5.1: a text that ends too early, at each of its tokens: refused at its end, blanks and all.
func TestEndsTooEarly(t *testing.T) {
	whole := []string{"!", "(", "a", "{", "1", ",", "-2", "}", "|", "b", "[", "0", ",", "9", "]", ")", "&", "c", `"x"`, "*", "|", "!", "!", "c", "{", `"x"`, ",", `"y"`, "}"}
	fine := map[int]int{16: 1, 20: 1, 29: 1}
	for count := range len(whole) + 1 {
		for _, between := range []string{"", " ", "\r\n\t "} {
			text := strings.Join(whole[:count], between)
			for _, behind := range []string{"", " ", " \n"} {
				if fine[count] == 0 {
					refuse(t, text+behind, len(text+behind))
				} else if _, p, e := parse.Parse(text + behind); e != api.OK || p != 0 {
					t.Errorf("Parse(%q): %d, %d", text+behind, p, e)
				}
			}
		}
	}
}

// someSchema has numbers a and b, words c and d.
func someSchema(t *testing.T) *schema.Schema {
	t.Helper()
	s, e := schema.New(
		api.Attr{Name: "a", Kind: api.KindInt}, api.Attr{Name: "b", Kind: api.KindInt},
		api.Attr{Name: "c", Kind: api.KindWord}, api.Attr{Name: "d", Kind: api.KindWord},
	)
	if e != api.OK {
		t.Fatal(e)
	}
	return s
}

// asking are predicates of each kind that ask of an attribute; the first ones ask for its number, the last ones for its word.
func asking(attr string) (numbers, words []api.Node) {
	return []api.Node{tree.Ints(attr, 1), tree.Range(attr, 0, 9), tree.Range(attr, 9, 0)}, []api.Node{tree.Words(attr, "x"), tree.Prefix(attr, "x")}
}

// around are trees with a predicate of another fault or of none beside, above or below others.
func around(n api.Node) []api.Node {
	return []api.Node{
		n, tree.Not(n), tree.And(a1, n), tree.Or(n, a1), tree.And(a1, b2, n), tree.Or(a1, tree.Not(tree.And(n, b2)), a1), tree.Not(tree.Not(n)),
	}
}

// P5.1: Kinds, of each kind of predicates and each attribute, wherever it stands in the tree.
func TestKinds(t *testing.T) {
	s := someSchema(t)
	for attr, kind := range map[string]int{"a": api.KindInt, "b": api.KindInt, "c": api.KindWord, "d": api.KindWord, "e": 0, "aa": 0, "a_": 0, strings.Repeat("n", 32): 0} {
		hold := func(preds []api.Node, asked int) {
			want := api.ErrKind
			if asked == kind {
				want = api.OK
			}
			for _, pred := range preds {
				for _, n := range around(pred) {
					if e := parse.Kinds(s, n); e != want {
						t.Errorf("Kinds(%v) = %d, not %d", n, e, want)
					}
				}
			}
		}
		numbers, words := asking(attr)
		hold(numbers, api.KindInt)
		hold(words, api.KindWord)
	}
	none, _ := schema.New()
	for _, n := range around(a1) {
		if e := parse.Kinds(none, n); e != api.ErrKind {
			t.Errorf("Kinds(%v) of no attributes = %d", n, e)
		}
	}
}

// outOfForm are trees out of form.
func outOfForm() []api.Node {
	spare := a1
	spare.Kids = []api.Node{b2}
	both := a1
	both.Lo = 1
	out := []api.Node{
		{}, {Op: api.OpPred}, {Op: api.OpNot}, {Op: api.OpAnd}, {Op: api.OpOr}, {Op: 5, Kids: []api.Node{a1, b2}}, {Op: -1, Pred: a1.Pred}, {Pred: a1.Pred},
		{Op: api.OpNot, Kids: []api.Node{a1, b2}}, {Op: api.OpAnd, Kids: []api.Node{a1}}, {Op: api.OpOr, Kids: []api.Node{a1}}, {Op: api.OpNot, Pred: a1.Pred, Kids: []api.Node{a1}},
		spare, both, tree.Ints("a"), tree.Words("c"), tree.Ints("A", 1), tree.Ints("", 1), tree.Ints("a", api.Most+1), tree.Range("a", api.Least-1, 0), tree.Range("a", 0, math.MaxInt),
		tree.Ints("a", make([]int, 65)...), tree.Words("c", make([]string, 65)...), tree.Words("c", strings.Repeat("w", 65)), tree.Prefix("c", strings.Repeat("w", 65)),
		{Op: api.OpPred, Pred: api.Pred{Kind: 5, Attr: "a"}}, {Op: api.OpPred, Pred: api.Pred{Kind: api.PredPrefix, Attr: "c", Words: []string{"x", "y"}}},
		tree.Ints("e", make([]int, 65)...),
	}
	for _, n := range slices.Clone(out) {
		out = append(out, api.Node{Op: api.OpNot, Kids: []api.Node{n}}, api.Node{Op: api.OpOr, Kids: []api.Node{a1, n}}, api.Node{Op: api.OpAnd, Kids: []api.Node{tree.Not(a1), tree.Not(n), a1}})
	}
	return out
}

// P5.1: Kinds of a tree out of form, which is told ahead of a wrong kind, wherever that stands.
func TestKindsOutOfForm(t *testing.T) {
	s := someSchema(t)
	none, _ := schema.New()
	for _, n := range outOfForm() {
		for _, tree := range []api.Node{
			n,
			{Op: api.OpAnd, Kids: []api.Node{tree.Ints("e", 1), n}},
			{Op: api.OpOr, Kids: []api.Node{n, tree.Words("a", "x")}},
		} {
			if e := parse.Kinds(s, tree); e != api.ErrForm {
				t.Errorf("Kinds(%v) = %d", tree, e)
			}
			if e := parse.Kinds(none, tree); e != api.ErrForm {
				t.Errorf("Kinds(%v) of no attributes = %d", tree, e)
			}
		}
	}
}

// Rule 1: Kinds of trees that are very deep or very broad.
func TestKindsOfGreatTrees(t *testing.T) {
	s := someSchema(t)
	for pred, want := range map[string]api.Errno{"a": api.OK, "c": api.ErrKind} {
		deep := tree.Ints(pred, 1)
		for i := 1; i < 1<<16; i++ {
			deep = api.Node{Op: api.OpNot, Kids: []api.Node{deep}}
		}
		if e := parse.Kinds(s, deep); e != want {
			t.Errorf("Kinds of a deep tree = %d, not %d", e, want)
		}
		broad := api.Node{Op: api.OpOr, Kids: append(slices.Repeat([]api.Node{a1}, 100000), tree.Ints(pred, 1))}
		if e := parse.Kinds(s, broad); e != want {
			t.Errorf("Kinds of a broad tree = %d, not %d", e, want)
		}
	}
}

// P5.1: Expr, the first of its errors, the chapter's examples among them; beside an error the node is zero (rule 3).
func TestExpr(t *testing.T) {
	alone, _ := schema.New(api.Attr{Name: "a", Kind: api.KindInt})
	for _, c := range []struct {
		depth int
		text  string
		want  api.Errno
	}{
		{9, "c {1}", api.ErrKind}, {9, `a {"x"}`, api.ErrKind}, {2, "!!a {1}", api.ErrTooDeep}, {3, "!!a {1}", api.OK},
		{9, "a {", api.ErrSyntax}, {0, "a {", api.ErrSyntax}, {-1, "", api.ErrSyntax}, {9, "c {1} & =", api.ErrSyntax}, {0, "!c {1", api.ErrSyntax},
		{0, strings.Repeat("!", 4092) + "a {1}", api.ErrSyntax}, {math.MaxInt, strings.Repeat(" ", 4097), api.ErrSyntax},
		{1, "a {1}", api.OK}, {0, "a {1}", api.ErrTooDeep}, {-1, "a {1}", api.ErrTooDeep}, {math.MinInt, "a {1}", api.ErrTooDeep}, {math.MaxInt, "a {1}", api.OK},
		{1, "(((a {1})))", api.OK}, {0, "c {1}", api.ErrTooDeep}, {1, "!c {1}", api.ErrTooDeep}, {2, "!c {1}", api.ErrKind}, {1, `a {1} & a "x"*`, api.ErrTooDeep},
		{32, strings.Repeat("!", 31) + "a {1}", api.OK}, {32, strings.Repeat("!", 32) + "a {1}", api.ErrTooDeep}, {33, strings.Repeat("!", 32) + "a {1}", api.OK},
		{4092, strings.Repeat("!", 4091) + "a {1}", api.OK}, {4091, strings.Repeat("!", 4091) + "a {1}", api.ErrTooDeep},
		{9, "a {1} & a [0, 9] | !a {2}", api.OK}, {9, "a {1} & a [0, 9] | !b {2}", api.ErrKind}, {9, `a "x"*`, api.ErrKind}, {9, "c [1, 2]", api.ErrKind}, {9, `c "x"*`, api.ErrKind},
	} {
		n, e := parse.Expr(alone, c.depth, c.text)
		want, _, _ := parse.Parse(c.text)
		if c.want != api.OK {
			want = api.Node{}
		}
		if e != c.want || !tree.Same(n, want) {
			t.Errorf("Expr(%d, %.60q) = %v, %d, not %v, %d", c.depth, c.text, n, e, want, c.want)
		}
	}
}

// P5.1: Expr's depth, of trees of many shapes: just depth is allowed, one above it isn't.
func TestExprDepth(t *testing.T) {
	s := someSchema(t)
	for text, depth := range map[string]int{
		"a {1}": 1, `((c "x"*))`: 1, "!a {1}": 2, "a {1} & a {1} & a {1}": 2, "a {1} | (a {1} | a {1})": 3, "!(a {1} | b {1} & !a {1})": 5, "a {1} & !!a {1} & a {1}": 4,
	} {
		for d := -2; d < 40; d++ {
			n, e := parse.Expr(s, d, text)
			if want := d >= depth; want != (e == api.OK) || !want && (e != api.ErrTooDeep || !tree.Same(n, api.Node{})) || want && tree.Depth(n) != depth {
				t.Errorf("Expr(%d, %q) = %v, %d", d, text, n, e)
			}
		}
	}
}

// block is where a list lies, its spare room too.
type block struct{ from, to uintptr }

func blockOf[T any](list []T) block {
	from := uintptr(unsafe.Pointer(unsafe.SliceData(list)))
	return block{from, from + uintptr(cap(list))*unsafe.Sizeof(*new(T))}
}

// blocks are those of all lists of a tree.
func blocks(n api.Node) []block {
	out := []block{blockOf(n.Ints), blockOf(n.Words), blockOf(n.Kids)}
	for _, kid := range n.Kids {
		out = append(out, blocks(kid)...)
	}
	return slices.DeleteFunc(out, func(b block) bool { return b.from == b.to })
}

// Rule 5: no two lists of what Parse and Expr answer share memory, be they of one answer or of several.
func TestAnswersAreNew(t *testing.T) {
	s := someSchema(t)
	text := `a {1, 2, 3} & !c "x"* | (b [0, 9] & c {"x", "y", "z"} & a {1, 2, 3} | !!a {5}) | c {"x"} & d {"u", "v"} & b {7} | a {1, 2, 3} | c "x"*`
	var answers []api.Node
	var found []block
	for range 3 {
		n, _, e := parse.Parse(text)
		m, f := parse.Expr(s, 9, text)
		if e != api.OK || f != api.OK {
			t.Fatal(e, f)
		}
		answers = append(answers, n, m)
		found = slices.Concat(found, blocks(n), blocks(m))
	}
	// 5 lists of numbers, 5 of words, 8 of kids, in each answer.
	if len(found) != 6*18 {
		t.Fatalf("%d lists", len(found))
	}
	slices.SortFunc(found, func(a, b block) int { return cmp.Compare(a.from, b.from) })
	for i := 1; i < len(found); i++ {
		if found[i].from < found[i-1].to {
			t.Error("two lists share memory")
		}
	}
	if !slices.EqualFunc(answers[1:], answers[:5], tree.Same) {
		t.Errorf("the answers differ: %v", answers)
	}
}

// Rule 5: the names and words of a tree are no pieces of its text.
func TestTextIsNotKept(t *testing.T) {
	bytes := []byte(`name {1} & other {"word"} | third "x"* | fourth [1, 2]`)
	text := unsafe.String(&bytes[0], len(bytes))
	s, _ := schema.New(api.Attr{Name: "name", Kind: api.KindInt}, api.Attr{Name: "other", Kind: api.KindWord}, api.Attr{Name: "third", Kind: api.KindWord}, api.Attr{Name: "fourth", Kind: api.KindInt})
	n, _, e := parse.Parse(text)
	m, f := parse.Expr(s, 9, text)
	if e != api.OK || f != api.OK {
		t.Fatal(e, f)
	}
	clear(bytes)
	want := tree.Or(tree.And(tree.Ints("name", 1), tree.Words("other", "word")), tree.Prefix("third", "x"), tree.Range("fourth", 1, 2))
	if !tree.Same(n, want) || !tree.Same(m, want) {
		t.Errorf("%v, %v, not %v", n, m, want)
	}
}

// Rule 5: Kinds leaves the tree as it was, its spare room too; the schema stays as it was.
func TestKindsLeavesItsTree(t *testing.T) {
	s := someSchema(t)
	attrs := s.Attrs()
	ints, words, kids := []int{1, 2, 3}, []string{"x", "y", "z"}, []api.Node{a1, b2, cx}
	n := tree.And(a1, a1, a1)
	n.Kids[0].Ints = ints[:2]
	n.Kids[1] = api.Node{Op: api.OpPred, Pred: api.Pred{Kind: api.PredWords, Attr: "c", Words: words[:1]}}
	n.Kids[2] = api.Node{Op: api.OpOr, Kids: kids[:2]}
	before := tree.And(n)
	if e := parse.Kinds(s, n); e != api.OK {
		t.Error(e)
	}
	none, _ := schema.New()
	if e := parse.Kinds(none, n); e != api.ErrKind {
		t.Error(e)
	}
	if !tree.Same(n, before) || !slices.Equal(ints, []int{1, 2, 3}) || !slices.Equal(words, []string{"x", "y", "z"}) || !slices.EqualFunc(kids, []api.Node{a1, b2, cx}, tree.Same) {
		t.Errorf("changed: %v, %v, %v, %v", n, ints, words, kids)
	}
	if !slices.Equal(s.Attrs(), attrs) {
		t.Errorf("the schema is changed: %v", s.Attrs())
	}
}
