package post_test

import (
	"slices"
	"testing"
	"unsafe"

	"trommel/api"
	"trommel/post"
)

// Rule 5: posts that are handed in stay as they were, the spare room too, and the list doesn't see what becomes of them.
func TestPostsHandedInAreLeft(t *testing.T) {
	for _, given := range [][]api.Post{
		{in(5), out(2), in(5), in(-1), in(2), in(90), in(91), in(92)}, {in(1), in(2), in(3), in(4), in(5), in(90), in(91), in(92)}, {in(7), in(7), in(7), in(7), in(7), in(90), in(91), in(92)}, {out(5), in(4), in(3), in(2), in(1), in(90), in(91), in(92)},
	} {
		room := slices.Clone(given)
		list := room[:5]
		made, grown, filled := post.New(list...), post.New(in(3), out(40)), post.New()
		bMade, bGrown, bFilled := &bag{}, &bag{}, &bag{}
		grown.Add(list...)
		filled.Add(list...)
		for _, l := range []*post.List{made, grown, filled} {
			l.Add(in(60), in(61))
			l.Add(list[:3]...)
			l.Drop(2)
			l.Add(in(62), out(0))
		}
		if !slices.Equal(room, given) {
			t.Fatalf("the posts are now %v", room)
		}
		bGrown.add(in(3), out(40))
		for _, b := range []*bag{bMade, bGrown, bFilled} {
			b.add(given[:5]...)
			b.add(in(60), in(61))
			b.drop(2)
			b.add(in(62), out(0))
		}
		cursor := made.Cursor()
		for i := range room {
			room[i] = out(1000 + i)
		}
		hold(t, made, bMade, room...)
		hold(t, grown, bGrown, room...)
		hold(t, filled, bFilled, room...)
		holdWalk(t, cursor, &walk{posts: bMade.all()})
	}
}

// Rule 5: posts handed to New, and nothing else told, are not kept either.
func TestNewKeepsNothing(t *testing.T) {
	for length := range 5 {
		room := []api.Post{in(1), in(2), in(3), in(4), in(5), in(6)}
		given, b := room[:length], &bag{posts: slices.Clone(room[:length])}
		l, m := post.New(given...), post.New(given...)
		if l == m {
			t.Fatal("two lists are one")
		}
		c := l.Cursor()
		for i := range room {
			room[i] = out(-i)
		}
		hold(t, l, b)
		hold(t, m, b)
		holdWalk(t, c, &walk{posts: b.posts})
		l.Add(in(9), in(8))
		if want := []api.Post{out(0), out(-1), out(-2), out(-3), out(-4), out(-5)}; !slices.Equal(room, want) {
			t.Fatalf("the posts are now %v", room)
		}
		hold(t, m, b)
	}
}

// Rule 5: IDs and lists that are handed in stay as they were, the spare room too.
func TestIDsAndListsHandedInAreLeft(t *testing.T) {
	given := []int{9, -1, 9, 4, 7, 1, 2, 3}
	room := slices.Clone(given)
	l := post.New(bothOf(-1, 1, 2, 3, 4, 9)...)
	if got := l.Drop(room[:5]...); got != 6 || !slices.Equal(room, given) {
		t.Errorf("Drop = %d, the IDs are now %v", got, room)
	}
	for i := range room {
		room[i] = 2
	}
	hold(t, l, &bag{posts: bothOf(1, 2, 3)})

	one, two, spare := post.New(in(5)), post.New(in(1), out(5)), post.New(in(3))
	lists := []*post.List{one, two, one, spare, spare}
	same := slices.Clone(lists)
	if got := post.Merge(lists[:3]...); !slices.Equal(got, []api.Post{in(1), out(5), in(5)}) || !slices.Equal(lists, same) {
		t.Errorf("Merge = %v, or the lists aren't as they were", got)
	}
	hold(t, one, &bag{posts: []api.Post{in(5)}})
	hold(t, two, &bag{posts: []api.Post{in(1), out(5)}})
	hold(t, spare, &bag{posts: []api.Post{in(3)}})
}

// apart tells whether lists, their spare rooms too, share no memory.
func apart(lists ...[]api.Post) bool {
	size := unsafe.Sizeof(api.Post{})
	for i, a := range lists {
		for _, b := range lists[:i] {
			if cap(a) == 0 || cap(b) == 0 {
				continue
			}
			fromA, fromB := uintptr(unsafe.Pointer(unsafe.SliceData(a))), uintptr(unsafe.Pointer(unsafe.SliceData(b)))
			if fromA < fromB+uintptr(cap(b))*size && fromB < fromA+uintptr(cap(a))*size {
				return false
			}
		}
	}
	return true
}

// scribble writes over a list that was answered, behind its end, and appends to it.
func scribble(list []api.Post) {
	_ = append(list, in(4711), out(4712), in(4713))
	list = list[:cap(list)]
	for i := range list {
		list[i] = out(-4711)
	}
}

// Rule 5: what All and Merge answer is new memory: no list, no cursor and no other answer sees what is written there.
func TestAnswersAreNew(t *testing.T) {
	given := []api.Post{in(2), in(1), out(2), in(8)}
	for _, more := range [][]api.Post{nil, {in(9)}, {in(9), in(10), in(11)}, {in(0), in(5)}} {
		l, other := post.New(given...), post.New(in(2), in(77))
		l.Add(more...)
		b, bOther := &bag{}, &bag{posts: []api.Post{in(2), in(77)}}
		b.add(given...)
		b.add(more...)
		c, d := l.Cursor(), other.Cursor()
		c.Next()
		lists := [][]api.Post{given, more, l.All(), l.All(), post.Merge(l), post.Merge(l), post.Merge(l, l), post.Merge(l, post.New()), post.Merge(post.New(), l), post.Merge(l, other), post.Merge(other, l), post.Merge(other), other.All()}
		if !apart(lists...) {
			t.Error("two lists share memory")
		}
		kept := [][]api.Post{}
		for _, list := range lists {
			kept = append(kept, slices.Clone(list))
		}
		for i := 2; i < len(lists); i++ {
			scribble(lists[i])
			lists[i] = kept[i]
			if !slices.EqualFunc(lists, kept, slices.Equal[[]api.Post]) {
				t.Fatal("an answer sees what is written into another one")
			}
		}
		hold(t, l, b, in(4711), out(-4711))
		hold(t, other, bOther, in(4711), out(-4711))
		holdWalk(t, c, &walk{posts: b.all(), at: 1})
		holdWalk(t, d, &walk{posts: bOther.all()})
	}
}

// Rule 5: what All and Merge answered stays, whatever becomes of the lists.
func TestAnswersStay(t *testing.T) {
	l, other := post.New(in(1), in(4), in(9)), post.New(out(4))
	all, one, both := l.All(), post.Merge(l), post.Merge(l, other)
	for i := range 30 {
		l.Add(in(i), out(10+i))
		l.Drop(i*7%30, 1, 4)
		other.Add(in(i))
		other.Drop(4)
	}
	if !slices.Equal(all, []api.Post{in(1), in(4), in(9)}) || !slices.Equal(one, all) || !slices.Equal(both, []api.Post{in(1), out(4), in(4), in(9)}) {
		t.Errorf("answered were %v, %v, %v", all, one, both)
	}
}

// P13.1, rule 5: lists made of one list of posts, or of what another list told, have nothing to do with one another.
func TestListsAreApart(t *testing.T) {
	posts := []api.Post{in(1), in(4), in(9)}
	l, m := post.New(posts...), post.New(posts...)
	n := post.New(l.All()...)
	merged := post.New(post.Merge(l, m)...)
	if l == m || l == n || post.New() == post.New() {
		t.Fatal("two lists are one")
	}
	l.Add(in(10), in(2))
	m.Drop(4, 9)
	n.Drop(1)
	n.Add(out(30))
	m.Add(in(5))
	hold(t, l, &bag{posts: []api.Post{in(1), in(2), in(4), in(9), in(10)}})
	hold(t, m, &bag{posts: []api.Post{in(1), in(5)}})
	hold(t, n, &bag{posts: []api.Post{in(4), in(9), out(30)}})
	hold(t, merged, &bag{posts: []api.Post{in(1), in(4), in(9)}})
}
