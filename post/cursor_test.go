package post_test

import (
	"math"
	"math/rand/v2"
	"slices"
	"testing"

	"trommel/api"
	"trommel/post"
)

// P13.1: the chapter's example of a cursor.
func TestExampleCursor(t *testing.T) {
	c := post.New(in(1), in(4), in(9)).Cursor()
	at := func(id int) {
		t.Helper()
		if p, there := c.Post(); !there || p != in(id) {
			t.Errorf("Post = %v, %v", p, there)
		}
	}
	at(1)
	if !c.Skip(2) {
		t.Error("Skip(2)")
	}
	at(4)
	if !c.Skip(3) {
		t.Error("Skip(3)")
	}
	at(4)
	if !c.Next() {
		t.Error("Next")
	}
	at(9)
	if c.Skip(10) || c.At() != 3 || c.Left() != 0 {
		t.Errorf("Skip(10): At %d, Left %d", c.At(), c.Left())
	}
}

// P13.1: a cursor over a list without posts stands behind the last at once, and stays.
func TestCursorOverNone(t *testing.T) {
	emptied := post.New(in(1), out(1))
	emptied.Drop(1)
	for _, l := range []*post.List{post.New(), emptied} {
		c := l.Cursor()
		for _, id := range ids() {
			holdPlace(t, c, &walk{})
			if c.Next() || c.Skip(id) {
				t.Error("it stands at a post")
			}
		}
		l.Add(in(1))
		if c.Next() || c.Skip(1) || c.Skip(math.MinInt) {
			t.Error("it sees what came later")
		}
		holdPlace(t, c, &walk{})
	}
}

// P13.1, P13.2: Post, At and Left at each place, by Next alone; behind the last it stays.
func TestNext(t *testing.T) {
	for _, posts := range [][]api.Post{{in(0)}, {out(0)}, {in(7), out(7)}, {in(-1), in(0), in(1)}, bothOf(ids()...), {in(math.MinInt), out(math.MaxInt)}} {
		l, b := post.New(posts...), &bag{}
		b.add(posts...)
		all := b.all()
		var told []api.Post
		c := l.Cursor()
		for i := range all {
			p, there := c.Post()
			if !there || c.At() != i || c.Left() != len(all)-i {
				t.Fatalf("%v at %d: %v, At %d, Left %d", all, i, there, c.At(), c.Left())
			}
			told = append(told, p)
			if got := c.Next(); got != (i+1 < len(all)) {
				t.Fatalf("%v at %d: Next = %v", all, i, got)
			}
		}
		if !slices.Equal(told, l.All()) || !slices.Equal(told, all) {
			t.Fatalf("told are %v, all are %v", told, l.All())
		}
		for range 3 {
			if p, there := c.Post(); there || p != (api.Post{}) || c.At() != len(all) || c.Left() != 0 || c.Next() {
				t.Fatalf("%v: behind the last %v %v, At %d, Left %d", all, p, there, c.At(), c.Left())
			}
		}
	}
}

// P13.1, P13.2: from each place, Skip to each ID: below the place, at it, between two, behind the last.
func TestSkipFromEachPlace(t *testing.T) {
	for _, posts := range [][]api.Post{{in(4)}, {out(4), in(4)}, {in(1), in(4), in(9)}, {out(-9), in(-1), out(-1), in(0), out(3), in(3), out(8)}, bothOf(-4, 0, 4), bothOf(ids()...), {in(math.MinInt), out(math.MinInt), in(math.MaxInt), out(math.MaxInt)}} {
		l := post.New(posts...)
		all := l.All()
		targets := ids()
		for id := -12; id <= 12; id++ {
			targets = append(targets, id)
		}
		for place := range len(all) + 1 {
			for _, id := range targets {
				skipped, stepped := l.Cursor(), l.Cursor()
				for range place {
					skipped.Next()
					stepped.Next()
				}
				w := &walk{posts: all, at: place}
				// The promise's own words: Next, again and again, up to an ID of id or more.
				for p, there := stepped.Post(); there && p.ID < id; p, there = stepped.Post() {
					stepped.Next()
				}
				if got := skipped.Skip(id); got != (stepped.Left() > 0) || got != w.skip(id) || skipped.At() != stepped.At() {
					t.Fatalf("%v at %d: Skip(%d) = %v, At %d, not %d", all, place, id, got, skipped.At(), stepped.At())
				}
				holdPlace(t, skipped, w)
				if at := skipped.At(); skipped.Skip(id) != w.skip(id) || skipped.At() != at {
					t.Fatalf("%v at %d: Skip(%d) again", all, place, id)
				}
				holdWalk(t, skipped, w)
			}
		}
	}
}

// P13.1: Skip to the ID of both posts stands at the one that is out; from the other one it doesn't go back.
func TestSkipAmongBoth(t *testing.T) {
	c := post.New(in(3), in(5), out(5), out(7)).Cursor()
	if p, _ := c.Post(); p != in(3) || !c.Skip(5) {
		t.Error("Skip(5)")
	}
	if p, _ := c.Post(); p != out(5) || c.At() != 1 || !c.Next() || !c.Skip(5) {
		t.Errorf("at %v", p)
	}
	if p, _ := c.Post(); p != in(5) || c.At() != 2 || c.Left() != 2 || !c.Skip(math.MinInt) || !c.Skip(4) || c.At() != 2 || !c.Skip(6) {
		t.Errorf("at %v", p)
	}
	if p, _ := c.Post(); p != out(7) || c.At() != 3 || c.Skip(math.MaxInt) || c.Skip(math.MinInt) || c.At() != 4 {
		t.Errorf("at %v", p)
	}
}

// P13.2: rows of Next and Skip, mixed.
func TestNextAndSkipMixed(t *testing.T) {
	chance := rand.New(rand.NewPCG(13, 4))
	for range 2000 {
		b := &bag{}
		for range chance.IntN(30) {
			b.add(api.Post{ID: chance.IntN(40) - 15, Out: chance.IntN(2) == 0})
		}
		c, w := post.New(b.posts...).Cursor(), &walk{posts: b.all()}
		for w.at < len(w.posts) {
			if id := chance.IntN(50) - 20; chance.IntN(3) == 0 {
				if got, want := c.Next(), w.next(); got != want {
					t.Fatalf("Next = %v", got)
				}
			} else if got, want := c.Skip(id), w.skip(id); got != want {
				t.Fatalf("Skip(%d) = %v", id, got)
			}
			holdPlace(t, c, w)
		}
		holdWalk(t, c, w)
	}
}

// P13.1: what becomes of a list later, a cursor doesn't see: from each place, behind each two changes.
func TestCursorStays(t *testing.T) {
	posts := []api.Post{in(1), out(4), in(4), in(9)}
	changes := []func(l *post.List){
		func(l *post.List) { l.Add(in(0), out(-5)) }, func(l *post.List) { l.Add(in(5)) }, func(l *post.List) { l.Add(in(10)) }, func(l *post.List) { l.Add(out(1), in(2), out(9), in(11), in(12)) }, func(l *post.List) { l.Add(posts...) },
		func(l *post.List) { l.Drop(1) }, func(l *post.List) { l.Drop(4) }, func(l *post.List) { l.Drop(9) }, func(l *post.List) { l.Drop(9, 10, 11, 12) }, func(l *post.List) { l.Drop(1, 4, 9) }, func(l *post.List) { l.Add() }, func(l *post.List) { l.Drop(77) },
	}
	for place := range len(posts) + 1 {
		for i, first := range changes {
			for j, second := range changes {
				l := post.New(posts[:2]...)
				l.Add(posts[2:]...)
				c := l.Cursor()
				for range place {
					c.Next()
				}
				first(l)
				middle, all := l.Cursor(), l.All()
				second(l)
				last := l.Cursor()
				first(l)
				second(l)
				if c.At() != place || c.Left() != len(posts)-place {
					t.Fatalf("changes %d and %d: At %d, Left %d", i, j, c.At(), c.Left())
				}
				holdWalk(t, c, &walk{posts: posts, at: place})
				holdWalk(t, middle, &walk{posts: all})
				last.Skip(5)
				holdWalk(t, l.Cursor(), &walk{posts: l.All()})
			}
		}
	}
}

// P13.1: each of a row of cursors has the posts of its own moment, though the list grows and shrinks at its end again and again.
func TestCursorsOfManyMoments(t *testing.T) {
	l, b := post.New(), &bag{}
	var cursors []*post.Cursor
	var walks []*walk
	for i := range 60 {
		p := api.Post{ID: i % 13, Out: i%2 == 0}
		l.Add(p)
		b.add(p)
		cursors, walks = append(cursors, l.Cursor()), append(walks, &walk{posts: b.all()})
		if i%5 == 4 {
			last := b.all()[len(b.posts)-1].ID
			if got, want := l.Drop(last), b.drop(last); got != want {
				t.Fatalf("Drop(%d) = %d", last, got)
			}
			cursors, walks = append(cursors, l.Cursor()), append(walks, &walk{posts: b.all()})
		}
	}
	for i := range cursors {
		holdWalk(t, cursors[i], walks[i])
	}
}

// P13.1: two cursors over one list: neither sees where the other one goes.
func TestTwoCursors(t *testing.T) {
	l := post.New(in(1), in(4), out(6), in(9))
	c, d := l.Cursor(), l.Cursor()
	if c == d {
		t.Fatal("two cursors are one")
	}
	wc, wd := &walk{posts: l.All()}, &walk{posts: l.All()}
	c.Next()
	wc.next()
	holdPlace(t, c, wc)
	holdPlace(t, d, wd)
	d.Skip(9)
	wd.skip(9)
	holdPlace(t, c, wc)
	holdPlace(t, d, wd)
	c.Skip(100)
	wc.skip(100)
	holdPlace(t, c, wc)
	holdPlace(t, d, wd)
	holdPlace(t, l.Cursor(), &walk{posts: l.All()})
	hold(t, l, &bag{posts: []api.Post{in(1), in(4), out(6), in(9)}})
	other := post.New(in(2)).Cursor()
	holdWalk(t, other, &walk{posts: []api.Post{in(2)}})
	holdPlace(t, d, wd)
}

// P13.1: Post, At and Left are asked of the Place that a cursor embeds, at once or later.
func TestPlace(t *testing.T) {
	c := post.New(in(1), in(4), in(9)).Cursor()
	place := &c.Place
	c.Next()
	if p, there := place.Post(); !there || p != in(4) || place.At() != 1 || place.Left() != 2 {
		t.Errorf("Post %v %v, At %d, Left %d", p, there, place.At(), place.Left())
	}
	c.Skip(50)
	if p, there := place.Post(); there || p != (api.Post{}) || place.At() != 3 || place.Left() != 0 {
		t.Errorf("Post %v %v, At %d, Left %d", p, there, place.At(), place.Left())
	}
}
