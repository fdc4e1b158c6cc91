package post_test

import (
	"math"
	"math/rand/v2"
	"slices"
	"testing"

	"trommel/api"
	"trommel/post"
)

// P13.1: the chapter's example of a list.
func TestExampleList(t *testing.T) {
	l := post.New(in(2), in(1), out(2), in(2))
	if got := l.All(); !slices.Equal(got, []api.Post{in(1), out(2), in(2)}) || l.Len() != 3 {
		t.Errorf("All = %v, Len %d", got, l.Len())
	}
	if got := l.Add(out(1)); got != 1 {
		t.Errorf("Add = %d", got)
	}
	if got := l.Drop(2, 2, 9); got != 2 {
		t.Errorf("Drop = %d", got)
	}
	if got := l.All(); !slices.Equal(got, []api.Post{out(1), in(1)}) || l.Len() != 2 {
		t.Errorf("All = %v, Len %d", got, l.Len())
	}
}

// P13.1: a list without posts, made of none or emptied.
func TestNoPosts(t *testing.T) {
	emptied := post.New(bothOf(ids()...)...)
	if got := emptied.Drop(ids()...); got != 2*len(ids()) {
		t.Errorf("Drop of all = %d", got)
	}
	for _, l := range []*post.List{post.New(), post.New([]api.Post{}...), emptied} {
		for range 2 {
			if l.Add() != 0 || l.Add([]api.Post{}...) != 0 || l.Drop() != 0 || l.Drop([]int{}...) != 0 || l.Drop(ids()...) != 0 {
				t.Error("none put in, none taken out")
			}
			if l.Len() != 0 || len(l.All()) != 0 {
				t.Errorf("Len %d, All %v", l.Len(), l.All())
			}
			hold(t, l, &bag{}, bothOf(ids()...)...)
		}
		if got := l.Add(in(0), out(0)); got != 2 {
			t.Errorf("Add to an empty list = %d", got)
		}
		hold(t, l, &bag{posts: []api.Post{in(0), out(0)}}, bothOf(ids()...)...)
	}
}

// P13.1: each call of a row is answered by what was told ahead of it.
func TestRow(t *testing.T) {
	l := post.New()
	least, greatest := math.MinInt, math.MaxInt
	for i, step := range []struct {
		add  []api.Post
		drop []int
		want int
		left []api.Post
	}{
		{[]api.Post{in(5), in(5), in(5)}, nil, 1, []api.Post{in(5)}}, {[]api.Post{in(5)}, nil, 0, []api.Post{in(5)}}, {[]api.Post{out(5), in(5)}, nil, 1, []api.Post{out(5), in(5)}}, {[]api.Post{in(3), out(5), in(3), in(9)}, nil, 2, []api.Post{in(3), out(5), in(5), in(9)}},
		{nil, []int{4}, 0, []api.Post{in(3), out(5), in(5), in(9)}}, {nil, []int{5, 5}, 2, []api.Post{in(3), in(9)}}, {nil, []int{5}, 0, []api.Post{in(3), in(9)}}, {[]api.Post{in(5)}, nil, 1, []api.Post{in(3), in(5), in(9)}}, {nil, []int{9}, 1, []api.Post{in(3), in(5)}}, {nil, []int{3}, 1, []api.Post{in(5)}}, {nil, []int{5, 3, 9}, 1, nil}, {nil, []int{5}, 0, nil},
		{[]api.Post{in(0)}, nil, 1, []api.Post{in(0)}}, {[]api.Post{in(-1), in(1), in(-10), in(10)}, nil, 4, []api.Post{in(-10), in(-1), in(0), in(1), in(10)}}, {[]api.Post{in(greatest), in(least)}, nil, 2, []api.Post{in(least), in(-10), in(-1), in(0), in(1), in(10), in(greatest)}}, {[]api.Post{out(greatest), out(least), out(0)}, nil, 3, []api.Post{out(least), in(least), in(-10), in(-1), out(0), in(0), in(1), in(10), out(greatest), in(greatest)}},
		{nil, []int{least + 1, greatest - 1, 2}, 0, []api.Post{out(least), in(least), in(-10), in(-1), out(0), in(0), in(1), in(10), out(greatest), in(greatest)}}, {nil, []int{greatest, -1, greatest, 7, -1}, 3, []api.Post{out(least), in(least), in(-10), out(0), in(0), in(1), in(10)}}, {nil, []int{10, 1, 0, least}, 6, []api.Post{in(-10)}}, {[]api.Post{out(-9), out(-11), in(-10)}, nil, 2, []api.Post{out(-11), in(-10), out(-9)}},
		{nil, []int{-11, -9}, 2, []api.Post{in(-10)}}, {nil, []int{-10}, 1, nil}, {[]api.Post{out(7)}, nil, 1, []api.Post{out(7)}}, {[]api.Post{in(7)}, nil, 1, []api.Post{out(7), in(7)}}, {nil, []int{6, 8, 7, 7}, 2, nil},
	} {
		var got int
		if step.add != nil {
			got = l.Add(step.add...)
		} else {
			got = l.Drop(step.drop...)
		}
		if left := l.All(); got != step.want || l.Len() != len(step.left) || !slices.Equal(left, step.left) {
			t.Errorf("step %d: %d, Len %d, %v", i, got, l.Len(), left)
		}
		hold(t, l, &bag{posts: step.left}, bothOf(ids()...)...)
	}
}

// P13.1: the first, the last, each one and all are dropped.
func TestDropEach(t *testing.T) {
	posts := []api.Post{out(math.MinInt), in(math.MinInt), in(-3), out(0), out(4), in(4), out(7), in(9), out(math.MaxInt), in(math.MaxInt)}
	kinds := []int{math.MinInt, -3, 0, 4, 7, 9, math.MaxInt}
	for choice := range 1 << len(kinds) {
		l, b := post.New(posts...), &bag{posts: slices.Clone(posts)}
		var gone []int
		for i, id := range kinds {
			if choice>>i&1 == 1 {
				gone = append(gone, id)
			}
		}
		if choice%2 == 1 {
			slices.Reverse(gone)
		}
		if got, want := l.Drop(gone...), b.drop(gone...); got != want {
			t.Fatalf("Drop(%v) = %d, not %d", gone, got, want)
		}
		hold(t, l, b, posts...)
		if got := l.Drop(gone...); got != 0 {
			t.Fatalf("Drop(%v) again = %d", gone, got)
		}
		if got, want := l.Add(posts...), b.add(posts...); got != want {
			t.Fatalf("Add behind Drop(%v) = %d, not %d", gone, got, want)
		}
		hold(t, l, b)
	}
}

// P13.1: an ID whose posts are dropped stays the business of no other, though it is beside it.
func TestDropBeside(t *testing.T) {
	for _, id := range ids() {
		l, b := post.New(bothOf(ids()...)...), &bag{posts: bothOf(ids()...)}
		if got := l.Drop(id); got != 2 {
			t.Errorf("Drop(%d) = %d", id, got)
		}
		b.drop(id)
		hold(t, l, b)
	}
}

// P13.1: every row of five calls with one post or one ID each, or with several.
func TestAllRowsOfFive(t *testing.T) {
	adds := [][]api.Post{{in(1)}, {out(1)}, {in(2)}, {in(2), out(2), in(1), in(2)}}
	drops := [][]int{{1}, {2}, {2, 1, 2}}
	var row func(done []int)
	row = func(done []int) {
		l, b := post.New(), &bag{}
		for _, c := range done {
			if c < len(adds) {
				if got, want := l.Add(adds[c]...), b.add(adds[c]...); got != want {
					t.Fatalf("%v: Add(%v) = %d", done, adds[c], got)
				}
			} else if got, want := l.Drop(drops[c-len(adds)]...), b.drop(drops[c-len(adds)]...); got != want {
				t.Fatalf("%v: Drop(%v) = %d", done, drops[c-len(adds)], got)
			}
		}
		hold(t, l, b, bothOf(0, 1, 2, 3)...)
		if len(done) < 5 {
			for c := range len(adds) + len(drops) {
				row(append(slices.Clone(done), c))
			}
		}
	}
	row(nil)
}

// P13.1: long rows of calls at three lists side by side, with cursors that were opened at any time and go on at any time.
func TestRowsSideBySide(t *testing.T) {
	chance := rand.New(rand.NewPCG(13, 1))
	for round := range 40 {
		span := 3 + round
		somePosts := func() []api.Post {
			var posts []api.Post
			for range chance.IntN(8) {
				posts = append(posts, api.Post{ID: chance.IntN(span) - span/3, Out: chance.IntN(2) == 0})
			}
			return posts
		}
		var lists []*post.List
		var bags []*bag
		for range 3 {
			posts, b := somePosts(), &bag{}
			b.add(posts...)
			lists, bags = append(lists, post.New(posts...)), append(bags, b)
		}
		var cursors []*post.Cursor
		var walks []*walk
		for range 120 {
			i := chance.IntN(3)
			switch chance.IntN(4) {
			case 0, 1:
				posts := somePosts()
				if got, want := lists[i].Add(posts...), bags[i].add(posts...); got != want {
					t.Fatalf("Add(%v) = %d, not %d", posts, got, want)
				}
			case 2:
				gone := []int{chance.IntN(span) - span/3, chance.IntN(span) - span/3}
				if got, want := lists[i].Drop(gone...), bags[i].drop(gone...); got != want {
					t.Fatalf("Drop(%v) = %d, not %d", gone, got, want)
				}
			case 3:
				cursors, walks = append(cursors, lists[i].Cursor()), append(walks, &walk{posts: bags[i].all()})
			}
			if len(cursors) > 0 {
				j, id := chance.IntN(len(cursors)), chance.IntN(span+2)-span/3-1
				if chance.IntN(2) == 0 {
					if got, want := cursors[j].Next(), walks[j].next(); got != want {
						t.Fatalf("Next = %v", got)
					}
				} else if got, want := cursors[j].Skip(id), walks[j].skip(id); got != want {
					t.Fatalf("Skip(%d) = %v", id, got)
				}
			}
			for j := range lists {
				hold(t, lists[j], bags[j])
			}
			for j := range cursors {
				holdPlace(t, cursors[j], walks[j])
			}
		}
		for j := range cursors {
			holdWalk(t, cursors[j], walks[j])
		}
	}
}

// P13.1: a list asked hasn't changed.
func TestAskingChangesNothing(t *testing.T) {
	b := &bag{posts: append(bothOf(ids()...), in(77), out(-77))}
	l := post.New(b.posts...)
	for range 3 {
		hold(t, l, b, bothOf(3, 4, 77, -77)...)
		l.Cursor().Skip(5)
		post.Merge(l, post.New(in(1000)), l)
	}
}

// orders are all orders of some posts.
func orders(posts []api.Post) [][]api.Post {
	if len(posts) == 0 {
		return [][]api.Post{nil}
	}
	var all [][]api.Post
	for i, p := range posts {
		for _, rest := range orders(slices.Delete(slices.Clone(posts), i, i+1)) {
			all = append(all, append([]api.Post{p}, rest...))
		}
	}
	return all
}

// P13.3: every order of posts, some of one ID and some told twice, at New, one by one at Add, and in two parts, is one list.
func TestOrderIsNotSeen(t *testing.T) {
	for _, some := range [][]api.Post{{in(1), out(1)}, {in(2), in(2), out(2)}, {in(1), out(1), in(2), out(2), in(3)}, {out(0), in(math.MaxInt), in(math.MinInt), in(0), out(math.MinInt)}, {in(-1), in(-2), out(-1), in(-1), out(4), in(4)}} {
		want := &bag{}
		want.add(some...)
		for _, order := range orders(some) {
			hold(t, post.New(order...), want)
			single := post.New()
			for _, p := range order {
				single.Add(p)
			}
			hold(t, single, want)
			for cut := range len(order) + 1 {
				l := post.New(order[:cut]...)
				before := l.Len()
				if got := l.Add(order[cut:]...); got != len(want.posts)-before {
					t.Fatalf("Add(%v) to %v = %d", order[cut:], order[:cut], got)
				}
				hold(t, l, want)
			}
		}
	}
}

// P13.3: many posts, in many orders and portions, with some dropped and added again.
func TestOrderOfMany(t *testing.T) {
	chance := rand.New(rand.NewPCG(13, 2))
	for range 60 {
		var posts []api.Post
		for range 1 + chance.IntN(120) {
			posts = append(posts, api.Post{ID: chance.IntN(60) - 20, Out: chance.IntN(2) == 0})
		}
		want := post.New(posts...).All()
		for range 6 {
			chance.Shuffle(len(posts), func(i, j int) { posts[i], posts[j] = posts[j], posts[i] })
			l := post.New()
			for rest := posts; len(rest) > 0; {
				portion := 1 + chance.IntN(len(rest))
				l.Add(rest[:portion]...)
				rest = rest[portion:]
			}
			l.Drop(posts[0].ID, posts[len(posts)-1].ID)
			l.Add(posts...)
			if got := l.All(); !slices.Equal(got, want) {
				t.Fatalf("All = %v, not %v", got, want)
			}
		}
	}
}

// P13.1: the posts of no list, of one, of one told twice, of lists that share posts.
func TestMerge(t *testing.T) {
	none, one, two, three := post.New(), post.New(in(1), out(4), in(9)), post.New(in(4), out(4), out(-2)), post.New(out(math.MaxInt), in(math.MinInt), in(4), in(1), in(9))
	for i, c := range []struct {
		lists []*post.List
		want  []api.Post
	}{
		{nil, nil}, {[]*post.List{}, nil}, {[]*post.List{none}, nil}, {[]*post.List{none, none, post.New()}, nil}, {[]*post.List{one}, []api.Post{in(1), out(4), in(9)}}, {[]*post.List{one, one}, []api.Post{in(1), out(4), in(9)}}, {[]*post.List{none, one, none, one, none, one}, []api.Post{in(1), out(4), in(9)}},
		{[]*post.List{one, two}, []api.Post{out(-2), in(1), out(4), in(4), in(9)}}, {[]*post.List{two, one}, []api.Post{out(-2), in(1), out(4), in(4), in(9)}}, {[]*post.List{two, two, one, two}, []api.Post{out(-2), in(1), out(4), in(4), in(9)}}, {[]*post.List{three, one}, []api.Post{in(math.MinInt), in(1), out(4), in(4), in(9), out(math.MaxInt)}},
		{[]*post.List{one, three, two, none}, []api.Post{in(math.MinInt), out(-2), in(1), out(4), in(4), in(9), out(math.MaxInt)}}, {[]*post.List{post.New(in(3)), post.New(out(3))}, []api.Post{out(3), in(3)}}, {[]*post.List{post.New(out(3)), post.New(in(3))}, []api.Post{out(3), in(3)}}, {[]*post.List{post.New(in(3)), post.New(in(3))}, []api.Post{in(3)}},
		{[]*post.List{post.New(in(7)), post.New(in(6)), post.New(in(5))}, []api.Post{in(5), in(6), in(7)}}, {[]*post.List{post.New(in(0)), post.New(in(-1)), post.New(out(0))}, []api.Post{in(-1), out(0), in(0)}},
	} {
		if got := post.Merge(c.lists...); !slices.Equal(got, c.want) {
			t.Errorf("case %d: Merge = %v, not %v", i, got, c.want)
		}
	}
	hold(t, none, &bag{})
	hold(t, one, &bag{posts: []api.Post{in(1), out(4), in(9)}})
	hold(t, two, &bag{posts: []api.Post{out(-2), out(4), in(4)}})
}

// P13.1: Merge of many lists, in any order, is what one list of all their posts has; it sees a list as it is at the call.
func TestMergeMany(t *testing.T) {
	chance := rand.New(rand.NewPCG(13, 3))
	for range 200 {
		var lists []*post.List
		var b bag
		for range chance.IntN(9) {
			l := post.New()
			for range chance.IntN(12) {
				l.Add(api.Post{ID: chance.IntN(30) - 10, Out: chance.IntN(2) == 0})
			}
			l.Drop(chance.IntN(30)-10, chance.IntN(30)-10)
			b.add(l.All()...)
			lists = append(lists, l)
			if chance.IntN(4) == 0 {
				lists = append(lists, l)
			}
		}
		for range 3 {
			if got := post.Merge(lists...); !slices.Equal(got, b.all()) {
				t.Fatalf("Merge = %v, not %v", got, b.all())
			}
			chance.Shuffle(len(lists), func(i, j int) { lists[i], lists[j] = lists[j], lists[i] })
		}
	}
}

// P13.1, P13.2: a list of many posts, told in an order of its own.
func TestGreat(t *testing.T) {
	const most = 20000
	var posts []api.Post
	for i := range most {
		posts = append(posts, api.Post{ID: i * 7919 % most, Out: i%3 == 0})
	}
	l := post.New(posts...)
	want := slices.SortedFunc(slices.Values(posts), func(a, b api.Post) int { return a.ID - b.ID })
	if !slices.Equal(l.All(), want) || l.Len() != most || l.Add(posts...) != 0 || l.Add(in(most), in(-1)) != 2 || l.Drop(most, -1) != 2 {
		t.Fatalf("Len %d", l.Len())
	}
	c := l.Cursor()
	for _, skip := range []struct{ id, at int }{{-5, 0}, {0, 0}, {1, 1}, {1000, 1000}, {999, 1000}, {1001, 1001}, {19998, 19998}, {5, 19998}} {
		if !c.Skip(skip.id) || c.At() != skip.at {
			t.Errorf("Skip(%d): At %d", skip.id, c.At())
		}
	}
	if c.At() != 19998 || c.Left() != 2 || c.Skip(most) || c.At() != most {
		t.Errorf("At %d, Left %d", c.At(), c.Left())
	}
	var even []int
	for id := 0; id < most; id += 2 {
		even = append(even, id)
	}
	if got := l.Drop(even...); got != most/2 || l.Len() != most/2 {
		t.Errorf("Drop = %d, Len %d", got, l.Len())
	}
	if got := post.Merge(l, post.New(posts...), l); !slices.Equal(got, want) {
		t.Errorf("Merge has %d", len(got))
	}
}
